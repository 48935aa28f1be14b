/- Parts. -/
import Derived.Test.YthhgoenomehobaaGreatP38
import Derived.Test.YthhgoenomehobaaGreatP43
namespace Go.Proofs.YthhgoenomehobaaGreat.mm
set_option maxRecDepth 100000
set_option linter.unusedVariables false
section
theorem mv_nh{m m':Mm}(V:Mv m m'):m'.heads.length=m.heads.length:=by
 rcases V with h|⟨s,c,h⟩|⟨c,l1,a,l2,h⟩ <;> exact h.nh
theorem a3l{W:Wd}(I:WInv W)(x:Pk):(Ib W x).m.heads.length=W.m.heads.length:=by
 unfold Ib
 by_cases h:doE W x=0
 ·rw[if_pos h]
  rcases Jo h with ⟨-,-,e⟩|⟨-,-,-,hi,hb,e⟩|⟨-,-,-,-,-,-,-,-,e⟩
  ·rw[e]
  ·rw[e];exact mv_nh (Px (P:=Mv W.m) I (mv_cases I) hi hb)
  ·rw[e]
 ·rw[if_neg h]
theorem Yn{W:Wd}(I:WInv W)(x:Pk):WInv (Ib W x):=by
 unfold Ib
 by_cases h:doE W x=0
 ·rw[if_pos h];exact Nb I h
 ·rw[if_neg h];exact I
theorem Wp:∀ (l:List Pk) {W:Wd},WInv W->(runW W l).m.heads.length=W.m.heads.length
 | [],W,_=>rfl
 | x :: l,W,I=>by
  rw[Qy,Wp l (Yn I x),a3l I x]
def BkOk(n:Nat)(p:Pst):Prop:=p.c.kind=4\/p.c.kind=5->0<=p.c.bk/\p.c.bk<n
theorem bk_call{nS nH:Nat}{c:Cl}(h:E5 nS nH c=0)(hk:c.kind=4\/c.kind=5):0<=c.bk/\c.bk<nH:=by
 obtain⟨k,a,b,t,bk,sl⟩:=c
 rw[Y6 hk] at h
 by_cases hb:inB bk 0 ((nH:Int) - 1)=true
 ·rw[Ag] at hb
  show 0<=bk/\bk<nH
  omega
 ·rw[if_neg hb] at h;cases h
theorem step_bk{n:Nat}{s:Rs}{x:Pk}(I:WInv s.w)(h:∀ p∈s.past,BkOk s.w.m.heads.length p):∀ p∈(Ew n s x).past,BkOk s.w.m.heads.length p:=by
 unfold Ew
 by_cases hE:doE s.w x=0
 ·rw[if_pos hE]
  by_cases ht:x.tick=true
  ·rw[if_pos ht];exact h
  ·rw[if_neg ht]
   by_cases hs:x.step=true
   ·rw[if_pos hs]
    by_cases hb:((doW s.w x).ts.getD x.task.toNat idle).busy=true
    ·rw[if_pos hb];exact h
    ·rw[if_neg hb]
     intro p hp
     rcases List.mem_append.1 hp with hp|hp
     ·exact h p hp
     ·rw[List.mem_singleton] at hp
      subst hp
      rcases Jo hE with ⟨h1,-,-⟩|⟨-,-,hr,hi,hbz,e⟩|⟨-,h2,-⟩
      ·exact(ht h1).elim
      ·intro hk
       have hc:((doW s.w x).ts.getD x.task.toNat idle).f.c=(tkAt s.w x).f.c:=by
        rw[e]
        show ((s.w.ts.set x.task.toNat _).getD x.task.toNat idle).f.c=_
        rw[List.getD_eq_getElem?_getD,List.getElem?_set_self (by omega)]
        exact Ob _ _ _
       show 0<=((doW s.w x).ts.getD x.task.toNat idle).f.c.bk/\_
       have hk':(tkAt s.w x).f.c.kind=4\/(tkAt s.w x).f.c.kind=5:=by rw[<- hc];exact hk
       have:=bk_call (I.fi _ (List.mem_of_getElem? hi) hbz).fit.call hk'
       rw[hc]
       show 0<=(tkAt s.w x).f.c.bk/\((doW s.w x).ts.getD x.task.toNat idle).f.c.bk<_
       rw[hc]
       exact this
      ·rw[hs] at h2;cases h2
   ·rw[if_neg hs];exact h
 ·rw[if_neg hE];exact h
theorem run_bk:∀ (l:List Pk) (n:Nat) (s:Rs),WInv s.w->(∀ p∈s.past,BkOk s.w.m.heads.length p)->∀ p∈(runR n s l).past,BkOk s.w.m.heads.length p
 | [],_,s,_,h=>h
 | x :: l,n,s,I,h=>by
  have I':WInv (Ew n s x).w:=by rw[Xp];exact Yn I x
  have e:(Ew n s x).w.m.heads.length=s.w.m.heads.length:=by rw[Xp];exact a3l I x
  have:=run_bk l (n+1) (Ew n s x) I' (by rw[e];exact step_bk I h)
  rw[e] at this
  exact this
theorem a0s{m m':Mm}(h:OkC m)(h':OkC m')(hn:m'.heads.length=m.heads.length){b:Nat}(hb:b<m.heads.length)(hu:∀ x∈chL m' b,m.now<(A8 m' x).unt){x:Fl}(hx:x∈Jj m)(ho:x.unt<=m.now)(hs:x.slot∈chL m b)(hx':x∈Jj m'):False:=by
 obtain⟨y,hy,rfl⟩:=List.mem_map.1 hx
 obtain⟨z,hz,e⟩:=List.mem_map.1 hx'
 have e1:z=y:=congrArg Fl.slot e
 subst e1
 have ea:(A8 m' z).a=(A8 m z).a:=congrArg Fl.a e
 have eb:(A8 m' z).b=(A8 m z).b:=congrArg Fl.b e
 have eu:(A8 m' z).unt=(A8 m z).unt:=congrArg Fl.unt e
 obtain⟨c,hc,hzc⟩:=Du.1 hz
 have k1:=(h'.held c hc z hzc).2.2
 have k2:=(h.held b hb z hs).2.2
 rw[ea,eb,hn,k2] at k1
 have k3:b=c:=by omega
 subst k3
 have:=hu z hzc
 rw[eu] at this
 have ho':(A8 m z).unt<=m.now:=ho
 omega
end
end Go.Proofs.YthhgoenomehobaaGreat.mm
