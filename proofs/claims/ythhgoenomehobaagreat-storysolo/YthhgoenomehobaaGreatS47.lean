/- Parts. -/
import Derived.Test.YthhgoenomehobaaGreatS02
import Derived.Maps.OwnOps
import Derived.Maps.OwnSet
import Derived.Test.YthhgoenomehobaaGreatS04
import Derived.Test.YthhgoenomehobaaGreatS43
import Derived.Test.YthhgoenomehobaaGreatS45
import Derived.Test.YthhgoenomehobaaGreatS03
import Derived.Test.YthhgoenomehobaaGreatS05
import Derived.Lib.SliceRun
import Derived.Laws.OwnMore
import Derived.Laws.IdiomCopy
import Derived.WalkSmall
import Derived.Deep.RegionLaw
import Derived.Test.YthhgoenomehobaaGreatS26
import Derived.Test.YthhgoenomehobaaGreatS46
import Derived.Laws.EntriesVeiled
import Derived.Deep.QuietTactic
import Derived.BigQuiet
import Derived.Test.YthhgoenomehobaaGreatS44
namespace Go.Proofs.YthhgoenomehobaaGreat.mm
set_option maxRecDepth 100000
set_option linter.unusedVariables false
open Go.Value renaming int → O, slice → Y
open Go.IntKind renaming i64 → J
section
open Go.ChangeShapes Go.WideShapes Go.ChangeAt Go.RowKit Go.Maps
theorem Vg:Tryz.prog.underlying 84=some (.map 3 3):=by kernel_rfl
theorem b9y(w:World):(zeroValue 3).run Tryz.prog w=.ok (.int .i64 0) w:=by kernel_rfl
def Jf(w:World)(g n:Nat)(f:Int->Int):Prop :=
 ∃ D:DataW Unit,w.ownsMap Tryz.prog 3 (plainElem Tryz.prog 3) g n D/\∀ x:Int,D.atKey (.int .i64 x) (.lit (.int .i64 0))=.lit (.int .i64 (f x))
theorem Jf.made(w:World):Jf (w.alloc (.map #[] 0)) w.heap.size 0 (fun _=>0) :=
 ⟨_,World.ownsMap_made w Tryz.prog 3 _,fun x=>by simp[DataW.atKey]⟩
theorem Jf.kept{w w':World}{g n:Nat}{f:Int->Int}(h:Jf w g n f)(hb:w'.heap[g]?=w.heap[g]?):Jf w' g n f:=by
 obtain⟨D,⟨es,clock,hg,F,hs,hD⟩,hat⟩:=h
 exact⟨D,⟨es,clock,hb.trans hg,F,hs,hD⟩,hat⟩
theorem Jf.lt{w:World}{g n:Nat}{f:Int->Int}(h:Jf w g n f):g<w.heap.size:=by
 obtain⟨D,⟨es,clock,hg,F,hs,hD⟩,hat⟩:=h
 exact lt_of_block hg
theorem Jf.look{w:World}{g n:Nat}{f:Int->Int}(h:Jf w g n f){x:Int}(hx:(Lit.int .i64 x).wf=true):(Instr.lookup 84 (.map (some g)) (.int .i64 x) false).run Tryz.prog w=.ok (.int .i64 (f x)) w:=by
 obtain⟨D,ho,hat⟩:=h
 obtain⟨c,hrun,hc,hwc⟩:=ho.lookup_int law3 Vg Tryz.underlying3 (b9y w) (keyOf_int_mk Tryz.underlying3 hx)
 rw[hat x] at hc
 rw[hrun]
 injection hc with h1
 injection h1 with _ h1
 rw[h1]
theorem Jf.put{w w':World}{g n:Nat}{f:Int->Int}{D:DataW Unit}{x v:Int}(ho:w.ownsMap Tryz.prog 3 (plainElem Tryz.prog 3) g n D)(hat:∀ x:Int,D.atKey (.int .i64 x) (.lit (.int .i64 0))=.lit (.int .i64 (f x)))
  (h:w'.ownsMap Tryz.prog 3 (plainElem Tryz.prog 3) g (n+1) (D.put (.int .i64 x) (.lit (.int .i64 v)))):Jf w' g (n+1) (fun y=>if y=x then v else f y):=by
 refine⟨_,h,fun y=>?_⟩
 by_cases e:y=x
 ·subst e
  rw[atKey_put_same (ho.tidy law3).isMap (by simp[WideAt.IsKeyLit])]
  simp
 ·rw[atKey_put_other (by intro hh;injection hh with _ hh;exact e hh),hat y]
  simp[e]
end
section
def Vh(M:Mm)(c:Cl)(X:Mm)(g:Fr):Prop :=
 if M.free.length=0 then X=M/\g.e=7
 else if hasK M (Ba M) (c.a,c.b) then g.e=6/\Bf X=Bf M
 else g.e=0/\(Bf X).Perm ((⟨c.a,c.b,g.slot,if 2000000<M.now+c.time then 2000000 else M.now+c.time⟩:Fl) :: Bf M)
set_option maxHeartbeats 1600000 in
theorem b3t{M:Mm}(hM:OkC M)(hlk:∀ x∈M.locks,x=-1){c:Cl}{ka kb tm:Int}(hca:c.a=ka/\c.b=kb/\c.kind=2/\c.time=tm)(hkey:Ee ka kb=true)(ht:1<=tm/\tm<=1000000) :
  ∃ X g,run adF (adM 0) (2*M.slots.length+7) M (Aw c)=(X,g,true)/\Vh M c X g:=by
 by_cases hF:M.free.length=0
 ·have e:adF M (Aw c)=Af (Aw c) 7:=by rw[b3o rfl];unfold Ih;rw[if_pos hF]
  have em:adM 0 M (Aw c)=M:=by rw[b3r rfl];unfold Hm;rw[if_pos hF]
  refine⟨M,Af (Aw c) 7,?_,?_⟩
  ·rw[run_end (by rw[e];rfl),e,em]
  ·unfold Vh;rw[if_pos hF];exact⟨rfl,rfl⟩
 have hF':0<M.free.length:=by omega
 obtain⟨l0,l1,l2⟩:=Sz hM.ok hF'
 have hfs:=Qp hF'
 obtain⟨s,hs⟩:∃ s,s=Eo M:=⟨_,rfl⟩
 rw[<- hs] at l0 l1 l2 hfs
 obtain⟨u,hu⟩:∃ u,u=Zw M (Aw c):=⟨_,rfl⟩
 have hsl:Be M s=true:=Cj.2 ⟨l0,l1⟩
 have hoff:s ∉ Ba M:=Rz hM l2
 obtain⟨M1,hM1⟩:∃ M1,M1=Hf M ka kb u:=⟨_,rfl⟩
 have hs1:∀ x:Int,A7 M1 x=if x.toNat=s.toNat then ⟨1,ka,kb,u,false,(A7 M s).next⟩ else A7 M x:=fun x=>by
  rw[hM1];exact Ic hsl (by rw[hs];rfl) x
 have ok1:Ok M1:=by
  rw[hM1]
  refine a5l hM.ok hkey ?_ hF'
  rw[hu]
  exact a5n hM.ok (by show 1<=c.time;rw[hca.2.2.2];exact ht.1)
 have h1h:M1.heads=M.heads:=by rw[hM1];rfl
 have h1l:M1.locks=M.locks:=by rw[hM1];rfl
 have h1n:M1.slots.length=M.slots.length:=by rw[hM1];simp[Hf]
 have h1f:M1.free ++ [s]=M.free:=by rw[hM1,hfs];simp[Hf]
 obtain⟨oc1,hL1,hA1,hat1⟩:=Tn hM ok1 h1h h1n hoff l0 (fun x hx=>by rw[hs1,if_neg hx]) (by rw[hs1,if_pos rfl])
 have hbk:=Yb hM.ok (c:=c) (by rw[hca.2.2.1];omega) (by rw[hca.1,hca.2.1];exact hkey)
 have hbi:=Kz c.a c.b hM.ok.nh.1
 obtain⟨b,hb⟩:∃ b,b=bkN M (Aw c):=⟨_,rfl⟩
 have hbe:(b:Int)=Eh ka kb M.heads.length:=by
  rw[hb]
  show ((G7 M.heads.length c).toNat:Int)=_
  rw[hbk,Int.toNat_of_nonneg hbi.1,hca.1,hca.2.1]
 have hbl:b<M.heads.length:=by rw[hca.1,hca.2.1] at hbi;omega
 have hbn:∀ (N:Mm) (f:Fr),N.heads.length=M.heads.length->f.c=c->bkN N f=b:=fun N f h1 h2=>by
  rw[hb];unfold bkN;rw[h1,h2];rfl
 have hbk1:b<M1.locks.length:=by rw[h1l,hM.ok.nl];exact hbl
 obtain⟨M2,hM2⟩:∃ M2,M2=Bh M1 b 0:=⟨_,rfl⟩
 have oc2:OkC M2:=by rw[hM2];exact Ns oc1 b (by omega)
 have h2s:M2.slots=M1.slots:=by rw[hM2];rfl
 have h2h:M2.heads=M1.heads:=by rw[hM2];rfl
 have h2f:M2.free=M1.free:=by rw[hM2];rfl
 have h2l:M2.locks=M1.locks.set b 0:=by rw[hM2];rfl
 have hat2:∀ x,A7 M2 x=A7 M1 x:=fun x=>by unfold A7;rw[h2s]
 have hL2:∀ d,chL M2 d=chL M d:=fun d=>by rw[<- hL1 d];unfold chL Ar;rw[h2s,h2h]
 have hA2:Ba M2=Ba M:=by rw[<- hA1];unfold Ba Bg;rw[h2h];exact Es fun d _=>by rw[hL2,hL1]
 have hn2:M2.heads.length=M.heads.length:=by rw[h2h,h1h]
 have hss2:A7 M2 s=⟨1,ka,kb,u,false,(A7 M s).next⟩:=by rw[hat2,hs1,if_pos rfl]
 have hsl2:Be M2 s=true:=by rw[Cj,h2s,h1n];exact⟨l0,l1⟩
 have hat20:∀ a∈Ba M,A7 M2 a=A7 M a:=fun a ha=>by rw[hat2];exact hat1 a ha
 obtain⟨f1,hf1⟩:∃ f,f=Ci (Aw c) s 1:=⟨_,rfl⟩
 have c1:f1.c=c:=by rw[hf1];rfl
 have p1:f1.pl=1:=by rw[hf1];rfl
 have d1:f1.done=false:=by rw[hf1];rfl
 have e0:adF M (Aw c)=f1:=by rw[b3o rfl];unfold Ih;rw[if_neg hF,hf1,hs]
 have em0:adM 0 M (Aw c)=M1:=by
  rw[b3r rfl];unfold Hm
  rw[if_neg hF,<- hu,hM1]
  show Hf M c.a c.b u=_
  rw[hca.1,hca.2.1]
 have hlock:Ak M1 (bkN M1 f1)=-1:=by
  rw[hbn M1 f1 (by rw[h1h]) c1]
  unfold Ak
  rw[List.getD_eq_getElem?_getD,List.getElem?_eq_getElem hbk1]
  exact hlk _ (by rw[<- h1l];exact List.getElem_mem _)
 have e1:adF M1 f1=toF f1 2:=by rw[b7u p1];unfold Nc;rw[if_pos hlock]
 have em1:adM 0 M1 f1=M2:=by rw[b7z p1];unfold Dz;rw[if_pos hlock,hbn M1 f1 (by rw[h1h]) c1,hM2]
 obtain⟨f3,hf3⟩:∃ f,f=Bl (toF f1 2) (Ar M2 b) 3:=⟨_,rfl⟩
 have e2:adF M2 (toF f1 2)=f3:=by rw[b7v rfl,hbn M2 (toF f1 2) hn2 c1,hf3]
 have em2:adM 0 M2 (toF f1 2)=M2:=H9 (by simp[toF])
 have hlen:=V7 oc2 (b:=b) (by rw[hn2];exact hbl)
 rw[h2s,h1n] at hlen
 obtain⟨k',f4,r1,r2,r3,r4,r5,r6⟩:=b3y oc2 (c:=c) (b:=b) (by rw[hn2];exact hbl) (chL M2 b) (2*M.slots.length+4) f3 (by rw[hf3];exact c1) (by rw[hf3];rfl) (by rw[hf3];exact d1)
  (by have:=oc2.path (b:=b) (by rw[hn2];exact hbl);rw[hf3];exact this) (fun a h=>h) (by omega)
 have hs4:f4.slot=s:=by rw[r5,hf3,hf1];rfl
 have hrun:run adF (adM 0) (2*M.slots.length+7) M (Aw c)=run adF (adM 0) k' M2 f4:=by
  rw[show 2*M.slots.length+7=(2*M.slots.length+6)+1 by omega,run_go (by rw[e0];exact d1),e0,em0,
   show 2*M.slots.length+6=(2*M.slots.length+5)+1 by omega,run_go (by rw[e1];exact d1),e1,em1,
   show 2*M.slots.length+5=(2*M.slots.length+4)+1 by omega,run_go (by rw[e2,hf3];exact d1),e2,em2]
  exact r1
 obtain⟨k2,rfl⟩:∃ k2,k'=k2+2:=⟨k' - 2,by omega⟩
 have hany:(chL M2 b).any (fun a=>keyAt M2 a==(c.a,c.b))=hasK M (Ba M) (c.a,c.b):=by
  rw[Bool.eq_iff_iff,List.any_eq_true,Gq,List.mem_map]
  constructor
  ·rintro ⟨a,ha,he⟩
   rw[hL2] at ha
   have hm:a∈Ba M:=E5.2 ⟨b,hbl,ha⟩
   refine⟨a,hm,?_⟩
   have:keyAt M2 a=(c.a,c.b):=by simpa using he
   rw[<- this];unfold keyAt;rw[hat20 a hm]
  ·rintro ⟨a,hm,he⟩
   obtain⟨b',hb',ha⟩:=E5.1 hm
   have hbu:=(hM.held b' hb' a ha).2.2
   have hk1:(A7 M a).a=c.a/\(A7 M a).b=c.b:=by unfold keyAt at he;simpa using he
   rw[hk1.1,hk1.2,hca.1,hca.2.1,<- hbe] at hbu
   have hbb:b=b':=by omega
   subst hbb
   refine⟨a,by rw[hL2];exact ha,?_⟩
   have:keyAt M2 a=(c.a,c.b):=by rw[<- he];unfold keyAt;rw[hat20 a hm]
   rw[this];exact beq_self_eq_true _
 rw[hany] at r6
 rw[hrun]
 cases hk:hasK M (Ba M) (c.a,c.b)
 ·rw[hk] at r6
  have p4:f4.pl=5:=by simpa using r6
  have hown:ownB M2 s=b:=by unfold ownB;rw[hss2,hn2];show (Eh ka kb M.heads.length).toNat=b;omega
  obtain⟨M3,hM3⟩:∃ M3,M3=Gz M2 s:=⟨_,rfl⟩
  have hr2:Ap M2 s≠0:=by show (A7 M2 s).refs≠0;rw[hss2];simp
  have hk2:hasK M2 (Ba M2) (keyAt M2 s)=false:=by
   rw[<- hk]
   have e1:keyAt M2 s=(c.a,c.b):=by unfold keyAt;rw[hss2,hca.1,hca.2.1]
   unfold hasK
   rw[e1,hA2]
   congr 1
   exact List.map_congr_left fun a ha=>by unfold keyAt;rw[hat20 a ha]
  have L:=a4x oc2 hsl2 hr2 hk2
  rw[<- hM3,hown] at L
  have hp:=a1a (by rw[hn2];exact hbl) L
  obtain⟨f5,hf5⟩:∃ f:Fr,f = { f4 with e:=0,pl:=7 }:=⟨_,rfl⟩
  have e4:adF M2 f4=f5:=by rw[b7x p4];unfold Jl;rw[if_pos (by rw[hs4];exact hsl2),hf5]
  have em4:adM 0 M2 f4=M3:=by
   rw[b8a p4];unfold Ig
   rw[hs4,if_pos hsl2,hbn M2 f4 hn2 r3,hM3]
   unfold Gz J7
   rw[hown]
  have c5:f5.c=c:=by rw[hf5];exact r3
  have h3h:M3.heads.length=M.heads.length:=by rw[L.nh,hn2]
  have h3l:M3.locks=M1.locks.set b 0:=by rw[hM3,<- h2l];rfl
  have e5:adF M3 f5=Af f5 0:=by rw[b3p (by rw[hf5]),hf5]
  have hl3:Ak M3 b=0:=by unfold Ak;rw[h3l];simp[List.getD_eq_getElem?_getD,hbk1]
  have em5:adM 0 M3 f5=Bh M3 b (-1):=by rw[b3s (by rw[hf5])];unfold Du;rw[hbn M3 f5 h3h c5,if_pos hl3]
  refine⟨Bh M3 b (-1),Af f5 0,?_,?_⟩
  ·rw[run_go (by rw[e4,hf5];exact r4),e4,em4,run_end (by rw[e5];rfl),e5,em5]
  ·unfold Vh
   rw[if_neg hF,hk,if_neg (by simp)]
   have hflow:∀ a∈Ba M,Bj (Bh M3 b (-1)) a=Bj M a:=fun a ha=>by
    show Bj M3 a=Bj M a
    unfold Bj
    have h1:=L.key a
    unfold keyAt at h1
    rw[hat20 a ha] at h1
    simp only[Prod.mk.injEq] at h1
    rw[h1.1,h1.2,L.unt,hat20 a ha]
   refine⟨rfl,?_⟩
   have g5:(Af f5 0).slot=s:=by rw[hf5];exact hs4
   have h1:=L.key s
   unfold keyAt at h1
   rw[hss2] at h1
   simp only[Prod.mk.injEq] at h1
   have hnew:Bj M3 s=⟨c.a,c.b,(Af f5 0).slot,if 2000000<M.now+c.time then 2000000 else M.now+c.time⟩:=by
    unfold Bj
    rw[h1.1,h1.2,L.unt,hss2,g5,hca.1,hca.2.1,hu]
    rfl
   show ((Ba M3).map (Bj M3)).Perm _
   rw[<- hnew]
   have hp2:=hp.map (Bj M3)
   rw[List.map_cons,hA2,List.map_congr_left (g:=Bj M) (show ∀ a∈Ba M,Bj M3 a=Bj M a from hflow)] at hp2
   exact hp2
 ·rw[hk] at r6
  have p4:f4.pl=6:=by simpa using r6
  have hr2:Ap M2 s=1:=by show (A7 M2 s).refs=1;rw[hss2]
  obtain⟨M3,hM3⟩:∃ M3,M3=Ec M2 s:=⟨_,rfl⟩
  have ok3:Ok M3:=by rw[hM3];exact Va oc2.ok hsl2
  have hM3':M3 = { M2 with slots:=Dp M2 s 0,free:=M2.free ++ [s] }:=by
   rw[hM3];unfold Ec;rw[if_neg (by omega)];unfold Lt;rw[if_pos hr2,hr2];rfl
  have hs3:∀ x:Int,A7 M3 x=if x.toNat=s.toNat then { A7 M2 s with refs:=0 } else A7 M2 x:=fun x=>by
   rw[hM3'];exact Ic hsl2 rfl x
  have h3h:M3.heads=M2.heads:=by rw[hM3']
  have h3l:M3.locks=M1.locks.set b 0:=by rw[hM3',<- h2l]
  obtain⟨oc3,hL3,hA3,hat3⟩:=Tn oc2 ok3 h3h (by rw[hM3'];simp[Dp]) (by rw[hA2];exact hoff) l0 (fun x hx=>by rw[hs3,if_neg hx]) (by rw[hs3,if_pos rfl])
  obtain⟨f5,hf5⟩:∃ f:Fr,f = { f4 with slot:=-1,e:=6,pl:=7 }:=⟨_,rfl⟩
  have e4:adF M2 f4=f5:=by rw[b7y p4];unfold Om;rw[hs4,if_pos hsl2,hf5]
  have em4:adM 0 M2 f4=M3:=by rw[b8b p4];unfold O3;rw[hs4,if_pos hsl2,hM3]
  have c5:f5.c=c:=by rw[hf5];exact r3
  have e5:adF M3 f5=Af f5 6:=by rw[b3p (by rw[hf5]),hf5]
  have hl3:Ak M3 b=0:=by unfold Ak;rw[h3l];simp[List.getD_eq_getElem?_getD,hbk1]
  have em5:adM 0 M3 f5=Bh M3 b (-1):=by rw[b3s (by rw[hf5])];unfold Du;rw[hbn M3 f5 (by rw[h3h,hn2]) c5,if_pos hl3]
  refine⟨Bh M3 b (-1),Af f5 6,?_,?_⟩
  ·rw[run_go (by rw[e4,hf5];exact r4),e4,em4,run_end (by rw[e5];rfl),e5,em5]
  ·unfold Vh
   rw[if_neg hF,hk,if_pos rfl]
   refine⟨rfl,?_⟩
   show Bf M3=Bf M
   refine a6q (by rw[hA3,hA2]) fun a ha=>?_
   rw[hat3 a (by rw[hA2];exact ha),hat20 a ha]
set_option maxHeartbeats 1600000 in
theorem b4s{M:Mm}(hM:OkC M)(hlk:∀ x∈M.locks,x=-1){c:Cl}{ka kb:Int}(hca:c.a=ka/\c.b=kb/\c.kind=3)(hkey:Ee ka kb=true) :
  ∃ X g,Goes drF (drM 0) (2*M.slots.length+6) M (Aw c) X g/\Dropped M c X g:=by
 have hbk:=Yb hM.ok (c:=c) (by rw[hca.2.2];omega) (by rw[hca.1,hca.2.1];exact hkey)
 have hbi:=Kz c.a c.b hM.ok.nh.1
 obtain⟨b,hb⟩:∃ b,b=bkN M (Aw c):=⟨_,rfl⟩
 have hbe:(b:Int)=Eh ka kb M.heads.length:=by
  rw[hb]
  show ((G7 M.heads.length c).toNat:Int)=_
  rw[hbk,Int.toNat_of_nonneg hbi.1,hca.1,hca.2.1]
 have hbl:b<M.heads.length:=by rw[hca.1,hca.2.1] at hbi;omega
 have hbn:∀ (N:Mm) (f:Fr),N.heads.length=M.heads.length->f.c=c->bkN N f=b:=fun N f h1 h2=>by
  rw[hb];unfold bkN;rw[h1,h2];rfl
 have hbk1:b<M.locks.length:=by rw[hM.ok.nl];exact hbl
 obtain⟨M2,hM2⟩:∃ M2,M2=Bh M b 0:=⟨_,rfl⟩
 have oc2:OkC M2:=by rw[hM2];exact Ns hM b (by omega)
 have h2s:M2.slots=M.slots:=by rw[hM2];rfl
 have h2h:M2.heads=M.heads:=by rw[hM2];rfl
 have h2f:M2.free=M.free:=by rw[hM2];rfl
 have h2l:M2.locks=M.locks.set b 0:=by rw[hM2];rfl
 have hn2:M2.heads.length=M.heads.length:=by rw[h2h]
 have hat2:∀ x,A7 M2 x=A7 M x:=fun x=>by unfold A7;rw[h2s]
 have hky2:∀ x,keyAt M2 x=keyAt M x:=fun x=>by unfold keyAt;rw[hat2]
 have hL2:∀ d,chL M2 d=chL M d:=fun d=>by unfold chL Ar;rw[h2s,h2h]
 have hA2:Ba M2=Ba M:=by unfold Ba Bg;rw[h2h];exact Es fun d _=>hL2 d
 have hlock:Ak M (bkN M (Aw c))=-1:=by
  rw[<- hb]
  unfold Ak
  rw[List.getD_eq_getElem?_getD,List.getElem?_eq_getElem hbk1]
  exact hlk _ (List.getElem_mem _)
 have e0:drF M (Aw c)=toF (Aw c) 1:=by rw[b8g rfl];unfold Fh;rw[if_pos hlock]
 have em0:drM 0 M (Aw c)=M2:=by rw[b8k rfl];unfold Dz;rw[if_pos hlock,<- hb,hM2]
 obtain⟨f2,hf2⟩:∃ f,f=Dl (toF (Aw c) 1) 0 (Ar M2 b) 2:=⟨_,rfl⟩
 have e1:drF M2 (toF (Aw c) 1)=f2:=by rw[b8h rfl,hbn M2 (toF (Aw c) 1) hn2 rfl,hf2]
 have em1:drM 0 M2 (toF (Aw c) 1)=M2:=Gp (by simp[toF])
 have hlen:=V7 oc2 (b:=b) (by rw[hn2];exact hbl)
 rw[h2s] at hlen
 obtain⟨k',f3,r1,r2,r3,r4,r5,r6⟩:=b4w oc2 (c:=c) (b:=b) (by rw[hn2];exact hbl) (chL M2 b) [] (2*M.slots.length+4) f2 rfl (by rw[hf2];rfl) (by rw[hf2];rfl) (by rw[hf2];rfl) (by rw[hf2];rfl)
  (by have:=oc2.path (b:=b) (by rw[hn2];exact hbl);rw[hf2];exact this) (by omega)
 have hs3:f3.slot=-1:=by rw[r5,hf2];rfl
 have hgo:∀ X g,Goes drF (drM 0) k' M2 f3 X g->Goes drF (drM 0) (2*M.slots.length+6) M (Aw c) X g:=fun X g h=>by
  rw[show 2*M.slots.length+6=(2*M.slots.length+4)+1+1 by omega]
  exact Di hM.ok e0 em0 rfl (Di oc2.ok e1 em1 (by rw[hf2];rfl) (r1 X g h))
 have hk'':3<=k':=by omega
 cases hfd:(chL M2 b).find? (fun a=>keyAt M2 a==(c.a,c.b)) with
 | none =>
  rw[hfd] at r6
  obtain⟨p3,e3'⟩:=r6
  obtain⟨k2,rfl⟩:∃ k2,k'=k2+2:=⟨k' - 2,by omega⟩
  have hk:hasK M (Ba M) (c.a,c.b)=false:=by
   cases hk:hasK M (Ba M) (c.a,c.b)
   ·rfl
   ·exfalso
    rw[Gq,List.mem_map] at hk
    obtain⟨a,hm,he⟩:=hk
    obtain⟨b',hb',ha⟩:=E5.1 hm
    have hbu:=(hM.held b' hb' a ha).2.2
    have hk1:(A7 M a).a=c.a/\(A7 M a).b=c.b:=by unfold keyAt at he;simpa using he
    rw[hk1.1,hk1.2,hca.1,hca.2.1,<- hbe] at hbu
    have hbb:b=b':=by omega
    subst hbb
    have:=List.find?_eq_none.1 hfd a (by rw[hL2];exact ha)
    rw[hky2,he] at this
    simp at this
  have hl2:Ak M2 b=0:=by unfold Ak;rw[h2l];simp[List.getD_eq_getElem?_getD,hbk1]
  have hback:Bh M2 b (-1)=M:=by
   rw[hM2];unfold Bh;dsimp only
   rw[Xn hlk]
  have e3:drF M2 f3=toF f3 6:=b4n p3
  have em3:drM 0 M2 f3=M:=by rw[b4q p3];unfold Du;rw[hbn M2 f3 hn2 r3,if_pos hl2,hback]
  have e4:drF M (toF f3 6)=Af { toF f3 6 with slot:=-1 } (toF f3 6).e:=b4o rfl
  have em4:drM 0 M (toF f3 6)=M:=by
   rw[b4r rfl];unfold Gv
   rw[if_neg (by
    show ¬ Be M f3.slot=true
    rw[hs3,Cj];omega)]
  refine⟨M,Af { toF f3 6 with slot:=-1 } (toF f3 6).e,hgo _ _ (Di oc2.ok e3 em3 r4 (S9 hM.ok e4 em4 rfl)),?_⟩
  unfold Dropped
  rw[hk,if_neg (by simp)]
  exact⟨rfl,e3'⟩
 | some a =>
  rw[hfd] at r6
  obtain⟨p3,hcu,m1,m2,hm,hpv⟩:=r6
  obtain⟨k2,rfl⟩:∃ k2,k'=k2+3:=⟨k' - 3,by omega⟩
  have hach:a∈chL M2 b:=List.mem_of_find?_eq_some hfd
  have hka:keyAt M2 a=(c.a,c.b):=by simpa using List.find?_some hfd
  have hmem:a∈Ba M:=E5.2 ⟨b,hbl,by rw[<- hL2];exact hach⟩
  have hk:hasK M (Ba M) (c.a,c.b)=true:=by
   rw[Gq,List.mem_map]
   exact⟨a,hmem,by rw[<- hky2];exact hka⟩
  have hnd:=oc2.nodup (b:=b) (by rw[hn2];exact hbl)
  rw[hm,List.nodup_append,List.nodup_cons] at hnd
  have na1:¬ a∈m1:=fun h=>hnd.2.2 a h a (by simp) rfl
  have hpv':f3.prev=Jn a (chL M2 b) 0 0:=by
   rw[hpv,hm,Ou na1 hnd.2.1.1]
   rfl
  have hasl:=hM.Ha a hmem
  obtain⟨M3,hM3⟩:∃ M3,M3=Ey M2 b (Jn a (chL M2 b) 0 0) a:=⟨_,rfl⟩
  have C:=a2q oc2 (by rw[hn2];exact hbl) hach
  rw[<- hM3] at C
  obtain⟨p,q,hpq,hpq'⟩:=Vy (by rw[hn2];exact hbl) C
  rw[hA2] at hpq
  have hat3:D7 M2 f3=true:=Bv.2 (by rw[hcu,h2s];omega)
  obtain⟨f4,hf4⟩:∃ f:Fr,f = { f3 with slot:=f3.cur - 1,e:=0,pl:=5 }:=⟨_,rfl⟩
  have e3:drF M2 f3=f4:=by rw[b8j p3];unfold Oq;rw[if_pos hat3,hf4]
  have em3:drM 0 M2 f3=M3:=by
   rw[b8l p3];unfold Gl
   rw[if_pos hat3,hbn M2 f3 hn2 r3,hpv',hM3,show f3.cur - 1=a by omega]
  have c4:f4.c=c:=by rw[hf4];exact r3
  have s4:f4.slot=a:=by rw[hf4];show f3.cur - 1=a;omega
  have h3h:M3.heads.length=M.heads.length:=by rw[C.nh,hn2]
  have h3n:M3.slots.length=M.slots.length:=by rw[C.ns,h2s]
  have h3l:M3.locks=M.locks.set b 0:=by rw[<- h2l,hM3];unfold Ey;split <;> rfl
  have hl3:Ak M3 b=0:=by unfold Ak;rw[h3l];simp[List.getD_eq_getElem?_getD,hbk1]
  obtain⟨M4,hM4⟩:∃ M4,M4=Bh M3 b (-1):=⟨_,rfl⟩
  have e4:drF M3 f4=toF f4 6:=b4n (by rw[hf4])
  have em4:drM 0 M3 f4=M4:=by rw[b4q (by rw[hf4])];unfold Du;rw[hbn M3 f4 h3h c4,if_pos hl3,hM4]
  have oc4:OkC M4:=by rw[hM4];exact Ns C.okc b (by omega)
  have hat4:∀ x,A7 M4 x=A7 M3 x:=fun x=>by rw[hM4];rfl
  have hA4:Ba M4=p++q:=by rw[hM4];exact hpq'
  have h4n:M4.slots.length=M.slots.length:=by rw[hM4];exact h3n
  have hsl4:Be M4 a=true:=by rw[Cj,h4n];exact hasl
  have hrefs:Ap M4 a=Ap M a:=by
   show (A7 M4 a).refs=(A7 M a).refs
   rw[hat4,C.refs,hat2]
  have hr0:Ap M a≠0:=by
   obtain⟨b',hb',ha⟩:=E5.1 hmem
   exact(hM.held b' hb' a ha).1
  have hoff:a ∉ Ba M4:=by
   rw[hA4]
   have hnn:=Gi hM.keys
   rw[hpq,List.nodup_append,List.nodup_cons] at hnn
   rw[List.mem_append]
   rintro (h|h)
   ·exact hnn.2.2 a h a (by simp) rfl
   ·exact hnn.2.1.1 h
  obtain⟨M5,hM5⟩:∃ M5,M5=Ec M4 a:=⟨_,rfl⟩
  have ok5:Ok M5:=by rw[hM5];exact Va oc4.ok hsl4
  have hM5':M5=Lt M4 a:=by rw[hM5];unfold Ec;rw[if_neg (by rw[hrefs];exact hr0)]
  have hs5:∀ x:Int,A7 M5 x=if x.toNat=a.toNat then { A7 M4 a with refs:=Ap M4 a - 1 } else A7 M4 x:=fun x=>by
   rw[hM5'];exact Ic hsl4 rfl x
  have h5n:M5.slots.length=M4.slots.length:=by rw[hM5'];simp[Lt,Dp]
  obtain⟨oc5,hL5,hA5,hat5⟩:=Tn oc4 ok5 (by rw[hM5'];rfl) h5n hoff hasl.1 (fun x hx=>by rw[hs5,if_neg hx]) (by rw[hs5,if_pos rfl])
  have e5:drF M4 (toF f4 6)=Af { toF f4 6 with slot:=-1 } (toF f4 6).e:=b4o rfl
  have em5:drM 0 M4 (toF f4 6)=M5:=by
   rw[b4r rfl];unfold Gv
   show (if Be M4 f4.slot=true then Ec M4 f4.slot else M4)=M5
   rw[s4,if_pos hsl4,hM5]
  have d4:f4.done=false:=by rw[hf4];exact r4
  refine⟨M5,Af { toF f4 6 with slot:=-1 } (toF f4 6).e,hgo _ _ (Di oc2.ok e3 em3 d4 (Di C.okc.ok e4 em4 d4 (S9 oc4.ok e5 em5 rfl))),?_⟩
  unfold Dropped
  rw[hk,if_pos rfl]
  refine⟨a,p,q,hpq,by rw[<- hky2];exact hka,by rw[hf4];rfl,oc5,?_,by rw[h5n,h4n],?_,?_⟩
  ·rw[hM5']
   show M4.locks=M.locks
   rw[hM4]
   show M3.locks.set b (-1)=M.locks
   rw[h3l];exact Xn hlk
  ·unfold Bf
   rw[hA5,hA4]
   refine List.map_congr_left fun x hx=>?_
   have h1:=C.key x
   unfold keyAt at h1
   rw[hat2] at h1
   simp only[Prod.mk.injEq] at h1
   unfold Bj
   rw[hat5 x (by rw[hA4];exact hx),hat4,h1.1,h1.2,C.unt,hat2]
  ·show (A7 M5 a).refs=_
   rw[hs5,if_pos rfl,hrefs]
theorem b6s{M:Mm}(hM:OkC M)(hlk:∀ x∈M.locks,x=-1){b:Nat}(hb:b<M.heads.length){c:Cl}(hk4:c.kind=4)(hbk:c.bk=b) :
  ∃ X g,Goes swF (swM 0) (3*M.slots.length+5) M (Aw c) X g/\g.e=0/\OkC X /\
   Bf X=(Bf M).filter (fun f=>!(decide (f.unt<=M.now) && (chL M b).contains f.slot))/\g.n=((Bf M).length:Int) - (Bf X).length:=by
 have hbl:b<M.locks.length:=by rw[hM.ok.nl];exact hb
 have hbn:∀ (N:Mm) (f:Fr),f.c=c->bkN N f=b:=fun N f h2=>by
  unfold bkN G7;rw[h2,if_pos (.inl hk4),hbk];rfl
 have S2:=b5u hM b
 have hlock:Ak M (bkN M (Aw c))=-1:=by
  rw[hbn M (Aw c) rfl]
  unfold Ak
  rw[List.getD_eq_getElem?_getD,List.getElem?_eq_getElem hbl]
  exact hlk _ (List.getElem_mem _)
 have e0:swF M (Aw c)=toF (Aw c) 1:=by rw[a4e rfl];unfold Fh;rw[if_pos hlock]
 have em0:swM 0 M (Aw c)=Bh M b 0:=by rw[b6q rfl];unfold Dz;rw[if_pos hlock,hbn M (Aw c) rfl]
 obtain⟨f2,hf2⟩:∃ f,f=Dl (toF (Aw c) 1) 0 (Ar (Bh M b 0) b) 2:=⟨_,rfl⟩
 have e1:swF (Bh M b 0) (toF (Aw c) 1)=f2:=by rw[a4f rfl,hbn _ (toF (Aw c) 1) rfl,hf2]
 have em1:swM 0 (Bh M b 0) (toF (Aw c) 1)=Bh M b 0:=Ep (by simp[toF])
 have hlen:=V7 hM hb
 have hns:=hM.ok.ns
 obtain⟨N',g,r1,r2,r3,r4⟩:=b6w (M:=M) (c:=c) hb hbl hk4 hbk (chL M b) [] (3*M.slots.length+3) (Bh M b 0) f2 S2 (by rw[hf2];rfl) (by rw[hf2];rfl) (by rw[hf2];rfl) (by rw[hf2];rfl)
  (by rw[hf2];show (0:Int)<=0/\(0:Int)+((chL M b).length:Int)<=1000000;omega) (by rw[hf2];exact S2.okc.path hb) (by omega)
 have r2':Sw M N' b ((chL M b).filter (fun a=>!Qh M a)):=by simpa using r2
 obtain⟨f1,f3⟩:=b2z hM hb r2'
 refine⟨Bh N' b (-1),g,?_,r3,Ns r2'.okc b (by omega),f1,?_⟩
 ·rw[show 3*M.slots.length+5=(3*M.slots.length+3)+1+1 by omega]
  exact Di hM.ok e0 em0 rfl (Di S2.okc.ok e1 em1 (by rw[hf2];rfl) r1)
 ·have h0:f2.n=0:=by rw[hf2];rfl
  have h1:Bf (Bh N' b (-1))=Bf N':=rfl
  rw[h1,f3,r4,h0]
  omega
theorem b5n{M:Mm}(hM:OkC M)(hlk:∀ x∈M.locks,x=-1){b:Nat}(hb:b<M.heads.length){c:Cl}(hk5:c.kind=5)(hbk:c.bk=b) :
  ∃ g,Goes swF (swM 0) (2*M.slots.length+5) M (Aw c) M g/\g.e=0/\g.keys=(chL M b).map (keyAt M):=by
 have hbl:b<M.locks.length:=by rw[hM.ok.nl];exact hb
 have hbn:∀ (N:Mm) (f:Fr),f.c=c->bkN N f=b:=fun N f h2=>by
  unfold bkN G7;rw[h2,if_pos (.inr hk5),hbk];rfl
 have hok:Ok (Bh M b 0):=Zl hM.ok b (by omega)
 have hlock:Ak M (bkN M (Aw c))=-1:=by
  rw[hbn M (Aw c) rfl]
  unfold Ak
  rw[List.getD_eq_getElem?_getD,List.getElem?_eq_getElem hbl]
  exact hlk _ (List.getElem_mem _)
 have e0:swF M (Aw c)=toF (Aw c) 1:=by rw[a4e rfl];unfold Fh;rw[if_pos hlock]
 have em0:swM 0 M (Aw c)=Bh M b 0:=by rw[b6q rfl];unfold Dz;rw[if_pos hlock,hbn M (Aw c) rfl]
 obtain⟨f2,hf2⟩:∃ f,f=Dl (toF (Aw c) 1) 0 (Ar (Bh M b 0) b) 2:=⟨_,rfl⟩
 have e1:swF (Bh M b 0) (toF (Aw c) 1)=f2:=by rw[a4f rfl,hbn _ (toF (Aw c) 1) rfl,hf2]
 have em1:swM 0 (Bh M b 0) (toF (Aw c) 1)=Bh M b 0:=Ep (by simp[toF])
 have hlen:=V7 hM hb
 have hns:=hM.ok.ns
 obtain⟨g,r1,r2,r3⟩:=b5o hM (c:=c) hb hbl hk5 hbk (chL M b) (2*M.slots.length+3) f2 (fun a h=>h) (by rw[hf2];rfl) (by rw[hf2];rfl) (by rw[hf2];rfl)
  (by rw[hf2];show 0+(chL M b).length<=100;omega) (by rw[hf2];exact hM.path hb) (by omega)
 rw[a7q hlk] at r1
 refine⟨g,?_,r2,?_⟩
 ·rw[show 2*M.slots.length+5=(2*M.slots.length+3)+1+1 by omega]
  exact Di hM.ok e0 em0 rfl (Di hok e1 em1 (by rw[hf2];rfl) r1)
 ·rw[r3]
  have:f2.keys=[]:=by rw[hf2];rfl
  rw[this];rfl
end
section
abbrev En:=(Int × Int) × Int
def b0k(f:Fl):En:=((f.a,f.b),f.unt)
def a6j(M:Mm)(a:Int):En:=(keyAt M a,(A7 M a).unt)
def isK(k:Int × Int)(e:En):Bool:=e.1==k
def Sol(l:List En)(M:Mm):Prop:=l.Perm ((Bf M).map b0k)
theorem Ws(M:Mm):(Bf M).map b0k=(Ba M).map (a6j M):=by
 unfold Bf
 rw[List.map_map]
 rfl
theorem Zr{l:List En}{M:Mm}(S:Sol l M)(e:En):e∈l ↔ ∃ a∈Ba M,a6j M a=e:=by
 rw[S.mem_iff,Ws,List.mem_map]
theorem b2m{l:List En}{M:Mm}(hM:OkC M)(S:Sol l M):(l.map Prod.fst).Nodup:=by
 have h:=S.map Prod.fst
 rw[Ws,List.map_map] at h
 exact h.nodup_iff.2 hM.keys
theorem Zq{l:List En}{M X:Mm}(S:Sol l M)(h:Bf X=Bf M):Sol l X:=by
 unfold Sol
 rw[h]
 exact S
theorem Vd{l:List En}{M:Mm}(S:Sol l M):l.length=(Bf M).length:=by
 rw[S.length_eq,List.length_map]
theorem a0p{k:Int × Int}:∀ {l:List En},(l.map Prod.fst).Nodup->∀ e∈l,e.1=k->l.find? (isK k)=some e
 | [],_,e,he,_=>by cases he
 | x :: l,h,e,he,hk=>by
  rw[List.map_cons,List.nodup_cons] at h
  rcases List.mem_cons.1 he with rfl|he
  ·rw[List.find?_cons_of_pos (by simp[isK,hk])]
  ·have hx:¬ isK k x=true:=fun hx=>by
    have:x.1=k:=by simpa [isK] using hx
    exact h.1 (List.mem_map.2 ⟨e,he,hk.trans this.symm⟩)
   rw[List.find?_cons_of_neg hx]
   exact a0p h.2 e he hk
theorem U0{l:List En}{M:Mm}(hM:OkC M)(S:Sol l M){a:Int}(ha:a∈Ba M):l.find? (isK (keyAt M a))=some (a6j M a) :=
 a0p (b2m hM S) _ ((Zr S _).2 ⟨a,ha,rfl⟩) rfl
theorem Xr{l:List En}{M:Mm}(S:Sol l M){k:Int × Int}(h:hasK M (Ba M) k=false):l.find? (isK k)=none:=by
 rw[List.find?_eq_none]
 intro e he hk
 obtain⟨a,ha,rfl⟩:=(Zr S e).1 he
 have h2:hasK M (Ba M) k=true:=by
  rw[Gq]
  exact List.mem_map.2 ⟨a,ha,by simpa [isK,a6j] using hk⟩
 rw[h] at h2
 cases h2
theorem a1u{l:List En}{M:Mm}(hM:OkC M)(S:Sol l M){k:Int × Int}(h:hasK M (Ba M) k=true):∃ a∈Ba M,keyAt M a=k/\l.find? (isK k)=some (a6j M a):=by
 rw[Gq] at h
 obtain⟨a,ha,rfl⟩:=List.mem_map.1 h
 exact⟨a,ha,rfl,U0 hM S ha⟩
theorem Un{k:Int × Int}:∀ {l:List En} {e:En},l.find? (isK k)=some e->∃ l1 l2,l=l1++e :: l2/\l.eraseP (isK k)=l1++l2
 | [],e,h=>by cases h
 | x :: l,e,h=>by
  by_cases hx:isK k x=true
  ·rw[List.find?_cons_of_pos hx] at h
   injection h with h
   subst h
   exact⟨[],l,rfl,by rw[List.eraseP_cons_of_pos hx];rfl⟩
  ·rw[List.find?_cons_of_neg hx] at h
   obtain⟨l1,l2,e1,e2⟩:=Un h
   exact⟨x :: l1,l2,by rw[e1];rfl,by rw[List.eraseP_cons_of_neg hx,e2];rfl⟩
theorem Wj{k:Int × Int}{l:List En}(h:l.find? (isK k)=none):l.eraseP (isK k)=l :=
 List.eraseP_of_forall_not (List.find?_eq_none.1 h)
theorem b2k{l:List En}{M X:Mm}(hM:OkC M)(S:Sol l M){a:Int}{p q:List Int}(e:Ba M=p++a :: q)(h:Bf X=(p++q).map (Bj M)):Sol (l.eraseP (isK (keyAt M a))) X:=by
 obtain⟨l1,l2,e1,e2⟩:=Un (U0 hM S (show a∈Ba M by rw[e];simp))
 unfold Sol at S ⊢
 rw[Ws,e,e1,List.map_append,List.map_cons] at S
 rw[e2,h,List.map_map,show b0k ∘ Bj M=a6j M from rfl,List.map_append]
 exact((List.perm_middle.symm.trans S).trans List.perm_middle).cons_inv
def Nq(nH:Nat)(b now:Int)(e:En):Bool:=!(Eh e.1.1 e.1.2 nH==b && decide (e.2<=now))
theorem a8n{l:List En}{M X:Mm}(hM:OkC M)(S:Sol l M){b:Nat}(hb:b<M.heads.length)
  (h:Bf X=(Bf M).filter (fun f=>!(decide (f.unt<=M.now) && (chL M b).contains f.slot))):Sol (l.filter (Nq M.heads.length b M.now)) X:=by
 unfold Sol at S ⊢
 have h1:=S.filter (Nq M.heads.length b M.now)
 rw[List.filter_map] at h1
 rw[h]
 have h2:(Bf M).filter (Nq M.heads.length b M.now ∘ b0k)=(Bf M).filter (fun f=>!(decide (f.unt<=M.now) && (chL M b).contains f.slot)):=by
  refine List.filter_congr fun f hf=>?_
  obtain⟨a,ha,rfl⟩:=List.mem_map.1 hf
  obtain⟨b',hb',ha'⟩:=E5.1 ha
  have hbu:=(hM.held b' hb' a ha').2.2
  show (!(Eh (A7 M a).a (A7 M a).b M.heads.length==(b:Int) && decide ((A7 M a).unt<=M.now)))=!(decide ((A7 M a).unt<=M.now) && (chL M b).contains a)
  rw[Bool.and_comm]
  congr 2
  rw[Bool.eq_iff_iff,beq_iff_eq,List.contains_iff_mem,hbu]
  constructor
  ·intro e
   have:b'=b:=by omega
   subst this
   exact ha'
  ·intro h2
   have:=(hM.held b hb a h2).2.2
   rw[hbu] at this
   exact this
 rw[<- h2]
 exact h1
theorem Yj{M M':Mm}{b:Nat}{d:Int->Int}(hM:OkC M)(E:Eff M M' b (chL M b) d):Bf M'=Bf M:=by
 have hch:∀ c,c<M.heads.length->chL M' c=chL M c:=fun c hc=>by
  by_cases e:c=b
  ·rw[e];exact E.at_
  ·exact E.else_ c hc e
 have hA:Ba M'=Ba M:=by
  unfold Ba Bg
  rw[E.nh]
  exact Ru fun c hc=>hch c (List.mem_range.1 hc)
 unfold Bf
 rw[hA]
 refine List.map_congr_left fun x hx=>?_
 have hk2:=E.key x (Cj.2 (hM.Ha x hx)) (fun hr=>Rz hM hr hx)
 have e1:(A7 M' x).a=(A7 M x).a/\(A7 M' x).b=(A7 M x).b:=by
  have:=hk2.1
  unfold keyAt at this
  injection this with a1 a2
  exact⟨a1,a2⟩
 unfold Bj
 rw[e1.1,e1.2,hk2.2]
theorem b2q(M:Mm)(a:Int):(Ec M a).now=M.now/\(Ec M a).heads.length=M.heads.length:=by
 unfold Ec
 split <;> exact⟨rfl,rfl⟩
theorem b2i(M:Mm)(b:Nat)(p a:Int):(Ey M b p a).now=M.now/\(Ey M b p a).heads.length=M.heads.length:=by
 unfold Ey
 split
 ·exact⟨rfl,rfl⟩
 ·exact⟨rfl,List.length_set⟩
theorem a8r(m:Mm)(i:Nat)(t:Tk):(stepT m i t).1.now=m.now/\(stepT m i t).1.heads.length=m.heads.length:=by
 unfold stepT lkM adM drM swM Iw D8 holdN Hm Dz Ig O3 Du Gl Gv
 repeat' split
 all_goals first|exact⟨rfl,rfl⟩|exact b2q _ _|exact b2i _ _ _ _|exact⟨rfl,List.length_set⟩
theorem a9w(w:Wd)(i:Nat):(Ed w i).m.now=w.m.now/\(Ed w i).m.heads.length=w.m.heads.length:=by
 unfold Ed
 split
 ·exact⟨rfl,rfl⟩
 ·split
  ·exact a8r _ _ _
  ·exact⟨rfl,rfl⟩
theorem Xj:∀ (n:Nat) (w:Wd),(rounds n w).m.now=w.m.now/\(rounds n w).m.heads.length=w.m.heads.length
 | 0,_=>⟨rfl,rfl⟩
 | n+1,w=>by
  have:∀ (L:List Nat) (v:Wd),(L.foldl Ed v).m.now=v.m.now/\(L.foldl Ed v).m.heads.length=v.m.heads.length:=fun L=>by
   induction L with
   | nil=>exact fun v=>⟨rfl,rfl⟩
   | cons j L ih=>exact fun v=>⟨(ih _).1.trans (a9w v j).1,(ih _).2.trans (a9w v j).2⟩
  have h1:=Xj n (I7 w)
  have h2:=this (List.range w.ts.length) w
  exact⟨h1.1.trans h2.1,h1.2.trans h2.2⟩
structure Over(w:Wd)(c:Cl)(n:Nat)(l:List En)(X:Mm)(g:Fr)(h:List Int):Prop where
 eq:rounds n (doW w ⟨0,false,false,c⟩)=⟨X,[⟨false,g,h⟩]⟩
 inv:Bi ⟨X,[⟨false,g,h⟩]⟩
 sol:Sol l X
 now:X.now=w.m.now
 nh:X.heads.length=w.m.heads.length
section
variable {w:Wd} {t:Tk} {l:List En} {c:Cl} {n:Nat}
theorem Gy(hw:w.ts=[t])(hE:doE w ⟨0,false,false,c⟩=0) :
  t.busy=false/\Df w.m.slots.length w.m.heads.length c=0/\(c.kind=6->c.slot∈t.held)/\doW w ⟨0,false,false,c⟩=⟨w.m,[⟨true,Aw c,t.held⟩]⟩:=by
 have hta:H7 w ⟨0,false,false,c⟩=t:=by
  unfold H7
  rw[hw]
  rfl
 unfold doE at hE
 rw[if_neg (by simp),if_neg (by show ¬ ¬ ((0:Int)<=0/\(0:Int)<w.ts.length);rw[hw];simp),if_neg (by simp)] at hE
 unfold Vm at hE
 rw[hta] at hE
 have hb:t.busy=false:=by
  cases hb:t.busy
  ·rfl
  ·rw[hb,if_pos rfl] at hE;cases hE
 rw[hb,if_neg (by simp)] at hE
 have hc:Df w.m.slots.length w.m.heads.length c=0:=by
  by_cases hc:Df w.m.slots.length w.m.heads.length c=0
  ·exact hc
  ·rw[if_pos (by exact hc)] at hE
   exact hE
 rw[if_neg (by simpa using hc)] at hE
 refine⟨hb,hc,fun h6=>?_,?_⟩
 ·rw[if_neg (by show ¬ (c.kind=1/\_);omega)] at hE
  by_cases hm:c.slot∈t.held
  ·exact hm
  ·rw[if_pos ⟨h6,hm⟩] at hE
   cases hE
 ·unfold doW
  rw[if_neg (by simp),if_neg (by simp),hta,hw]
  rfl
theorem Gt{X:Mm}{g:Fr}{h:List Int}{l':List En}(I:Bi w)(hw:w.ts=[t])(hE:doE w ⟨0,false,false,c⟩=0){N:Nat}(hN:N<=n)
  (hr:∃ j,j<=N/\rounds j ⟨w.m,[⟨true,Aw c,t.held⟩]⟩=⟨X,[⟨false,g,h⟩]⟩) (S:Sol l' X):Over w c n l' X g h:=by
 obtain⟨-,-,-,hdo⟩:=Gy hw hE
 obtain⟨j,hj,e⟩:=hr
 have hid:Idle ⟨X,[⟨false,g,h⟩]⟩:=fun u hu=>by
  rw[List.mem_singleton.1 hu]
 have hrs:rounds n (doW w ⟨0,false,false,c⟩)=⟨X,[⟨false,g,h⟩]⟩:=by
  rw[hdo,show n=j+(n - j) by omega,Og,e]
  exact Pe hid _
 have I2:=Xi n (Nw I hE)
 have hnw:=Xj n (doW w ⟨0,false,false,c⟩)
 rw[hrs] at I2 hnw
 rw[hdo] at hnw
 exact⟨hrs,I2,S,hnw.1,hnw.2⟩
theorem Ve{nf:Mm->Fr->Fr}{nm:Mm->Fr->Mm}{X:Mm}{g:Fr}{N:Nat}{m:Mm}{f:Fr}{held:List Int}(K:Fr->Prop)(hK:∀ m f,K f->K (nf m f))(hf:K f)(hst:∀ m f,K f->stepT m 0 ⟨true,f,held⟩=(nm m f,⟨!(nf m f).done,nf m f,held⟩))
  (hr:run nf nm N m f=(X,g,true)):∃ j,j<=N/\rounds j ⟨m,[⟨true,f,held⟩]⟩=⟨X,[⟨false,g,held⟩]⟩ :=
 a1v (i:=0) (ts:=[⟨false,f,held⟩]) (by simp) (fun j u hj hne=>by
  cases j with
  | zero=>exact(hne rfl).elim
  | succ j=>simp at hj) K hK hst N m f hf hr
theorem a1f{X:Mm}{g:Fr}{held:List Int}:∀ (N:Nat) (m:Mm) (f:Fr),f.c.kind=1->Nr N m f=(X,g,true)->∃ j,j<=N/\rounds j ⟨m,[⟨true,f,held⟩]⟩=⟨X,[⟨false,g,if g.e=0 then held ++ [g.slot] else held⟩]⟩
 | 0,m,f,_,h=>by
  have h2:(m,f,false)=(X,g,true):=h
  injection h2 with _ h2
  injection h2 with _ h2
  cases h2
 | n+1,m,f,hk,h=>by
  have hst:stepT m 0 ⟨true,f,held⟩=(lkM m f,I9 m ⟨true,f,held⟩):=by
   unfold stepT
   rw[if_pos hk]
  have hr:I7 ⟨m,[⟨true,f,held⟩]⟩=⟨lkM m f,[I9 m ⟨true,f,held⟩]⟩:=by
   rw[Qu (i:=0) (by simp) (fun j u hj hne=>by
    cases j with
    | zero=>exact(hne rfl).elim
    | succ j=>simp at hj),Rj (t:=⟨true,f,held⟩) rfl rfl]
   show (⟨(stepT m 0 ⟨true,f,held⟩).1,[(stepT m 0 ⟨true,f,held⟩).2]⟩:Wd)=_
   rw[hst]
  cases hd:(lkF m f).done with
  | true =>
   rw[Py hd] at h
   injection h with h1 h2
   injection h2 with h2 _
   refine⟨1,by omega,?_⟩
   show I7 _=_
   rw[hr]
   unfold I9
   show (⟨lkM m f,[⟨!(lkF m f).done,lkF m f,if (lkF m f).done && (lkF m f).e==0 then held ++ [(lkF m f).slot] else held⟩]⟩:Wd)=_
   rw[hd,h1,h2]
   simp
  | false =>
   rw[Le hd] at h
   obtain⟨j,hj,e⟩:=a1f n (lkM m f) (lkF m f) (by rw[a4z];exact hk) h
   refine⟨j+1,by omega,?_⟩
   show rounds j (I7 _)=_
   rw[hr]
   have:I9 m ⟨true,f,held⟩=⟨true,lkF m f,held⟩:=by
    unfold I9
    show (⟨!(lkF m f).done,lkF m f,if (lkF m f).done && (lkF m f).e==0 then held ++ [(lkF m f).slot] else held⟩:Tk)=_
    rw[hd]
    rfl
   rw[this]
   exact e
theorem Ui{X:Mm}{g:Fr}{h:List Int}(I:Bi ⟨X,[⟨false,g,h⟩]⟩){a:Int}(ha:Be X a=true):Ap X a=H8 X a+(h.count a:Int):=by
 have:=I.refs a ha
 rw[this]
 show H8 X a+([cnt ⟨false,g,h⟩ a]).sum=_
 rw[Dq (.inl rfl)]
 simp
theorem Oi(I:Bi w)(hw:w.ts=[t])(hb:t.busy=false):∀ x∈w.m.locks,x=-1 :=
 a2x I fun u hu=>by rw[hw] at hu;rw[List.mem_singleton.1 hu];exact hb
theorem a8q(I:Bi w)(hw:w.ts=[t])(hE:doE w ⟨0,false,false,c⟩=0)(S:Sol l w.m)(hn:79<=n)(hk:c.kind=1) :
  ∃ X g,Over w c n l X g (if g.e=0 then t.held ++ [g.slot] else t.held)/\(g.e=0 ↔ ∃ e,l.find? (isK (c.a,c.b))=some e/\w.m.now<e.2):=by
 obtain⟨hb,hc,-,-⟩:=Gy hw hE
 have hM:=I.okc
 have hns:=hM.ok.ns
 have hkey:Ee c.a c.b=true:=by
  unfold Df at hc
  rw[if_pos (.inl hk)] at hc
  cases hkb:Ee c.a c.b
  ·rw[hkb] at hc;cases hc
  ·rfl
 have hr:∀ i,Be w.m i=true->Ap w.m i<1000:=fun i hi=>by
  have h1:Bi ⟨w.m,[⟨false,t.f,t.held⟩]⟩:=by
   have h2:w=⟨w.m,[⟨false,t.f,t.held⟩]⟩:=by
    cases w;cases t
    simp only at hw hb
    rw[hw,hb]
   rw[<- h2];exact I
  have h2:=Ui h1 hi
  have h3:=Kt w.m i
  have h4:=(I.held t (by rw[hw];simp)).1
  have h5:=List.count_le_length (a:=i) (l:=t.held)
  omega
 obtain⟨X,g,e1,e2⟩:=b6i hM (fun i hi=>by have:=hr i hi;omega) hk hkey
 have hgo:=a1f (held:=t.held) _ _ _ (show (Aw c).c.kind=1 from hk) e1
 refine⟨X,g,?_⟩
 unfold Found at e2
 cases hfd:(chL w.m (G7 w.m.heads.length c).toNat).find? (fun a=>keyAt w.m a==(c.a,c.b)) with
 | none =>
  rw[hfd] at e2
  have hno:hasK w.m (Ba w.m) (c.a,c.b)=false:=by
   cases hh:hasK w.m (Ba w.m) (c.a,c.b)
   ·rfl
   ·exfalso
    rw[Gq] at hh
    obtain⟨a,ha,he⟩:=List.mem_map.1 hh
    have:=a7h (f:=Aw c) hM (by show ¬ (c.kind=4\/c.kind=5);omega) hkey ha he
    have h2:=List.find?_eq_none.1 hfd a this
    rw[he] at h2
    simp at h2
  refine⟨Gt I hw hE (by omega) hgo (by rw[e2.1];exact S),?_⟩
  rw[Xr S hno,e2.2]
  simp
 | some a =>
  rw[hfd] at e2
  have e2':if w.m.now<(A7 w.m a).unt then X=Gn w.m a/\g.e=0/\g.slot=a else X=w.m/\g.e=5:=e2
  have hbk:=Yb hM.ok (c:=c) (by omega) hkey
  have hbi:=Kz c.a c.b hM.ok.nh.1
  have hka:keyAt w.m a=(c.a,c.b):=by simpa using List.find?_some hfd
  have hm:a∈Ba w.m:=E5.2 ⟨_,by rw[hbk];omega,List.mem_of_find?_eq_some hfd⟩
  have hfl:=U0 hM S hm
  rw[hka] at hfl
  by_cases hnow:w.m.now<(A7 w.m a).unt
  ·rw[if_pos hnow] at e2'
   have hsl:=Cj.2 (hM.Ha a hm)
   have hr0:Ap w.m a≠0:=fun h0=>Rz hM h0 hm
   have hr1:=L6 hM.ok hsl
   have E:=a0y hM 0 hsl (by omega) (hr a hsl)
   refine⟨Gt I hw hE (by omega) hgo (by rw[e2'.1];exact Zq S (Yj hM E)),?_⟩
   rw[hfl,e2'.2.1]
   exact⟨fun _=>⟨_,rfl,hnow⟩,fun _=>rfl⟩
  ·rw[if_neg hnow] at e2'
   refine⟨Gt I hw hE (by omega) hgo (by rw[e2'.1];exact S),?_⟩
   rw[hfl,e2'.2]
   constructor
   ·intro h;cases h
   ·rintro ⟨e,he,h2⟩
    injection he with he
    rw[<- he] at h2
    exact(hnow h2).elim
theorem b2n(I:Bi w)(hw:w.ts=[t])(hE:doE w ⟨0,false,false,c⟩=0)(S:Sol l w.m)(hn:79<=n)(hk:c.kind=2) :
  ∃ X g,(w.m.free.length=0/\g.e=7/\Over w c n l X g t.held)\/(w.m.free.length≠0/\(l.find? (isK (c.a,c.b))).isSome=true/\g.e=6/\Over w c n l X g t.held) \/
   (w.m.free.length≠0/\l.find? (isK (c.a,c.b))=none/\g.e=0/\Over w c n (l ++ [((c.a,c.b),if 2000000<w.m.now+c.time then 2000000 else w.m.now+c.time)]) X g t.held):=by
 obtain⟨hb,hc,-,-⟩:=Gy hw hE
 have hM:=I.okc
 have hns:=hM.ok.ns
 have hck:(inB c.time 1 1000000 && Ee c.a c.b)=true:=by
  unfold Df at hc
  rw[if_neg (by omega),if_pos hk] at hc
  cases hkb:(inB c.time 1 1000000 && Ee c.a c.b)
  ·rw[hkb] at hc;cases hc
  ·rfl
 rw[Bool.and_eq_true,Ai] at hck
 obtain⟨X,g,e1,e2⟩:=b3t hM (Oi I hw hb) (c:=c) ⟨rfl,rfl,hk,rfl⟩ hck.2 hck.1
 have hgo:=Ve (held:=t.held) (fun f=>f.c.kind=2) (fun m f h=>by rw[b7n];exact h) (show (Aw c).c.kind=2 from hk)
  (fun m f h=>by unfold stepT;rw[if_neg (by show ¬ f.c.kind=1;omega),if_pos h];rfl) e1
 refine⟨X,g,?_⟩
 unfold Vh at e2
 by_cases hF:w.m.free.length=0
 ·rw[if_pos hF] at e2
  exact .inl ⟨hF,e2.2,Gt I hw hE (by omega) hgo (by rw[e2.1];exact S)⟩
 ·rw[if_neg hF] at e2
  cases hh:hasK w.m (Ba w.m) (c.a,c.b) with
  | true =>
   rw[hh,if_pos rfl] at e2
   obtain⟨a,-,-,hf⟩:=a1u hM S hh
   exact .inr (.inl ⟨hF,by rw[hf];rfl,e2.1,Gt I hw hE (by omega) hgo (Zq S e2.2)⟩)
  | false =>
   rw[hh,if_neg (by simp)] at e2
   refine .inr (.inr ⟨hF,Xr S hh,e2.1,Gt I hw hE (by omega) hgo ?_⟩)
   have h2:=(e2.2.map b0k).symm
   rw[List.map_cons] at h2
   exact(List.perm_append_singleton _ l).trans ((S.cons _).trans h2)
theorem a8o(I:Bi w)(hw:w.ts=[t])(hE:doE w ⟨0,false,false,c⟩=0)(S:Sol l w.m)(hn:79<=n)(hk:c.kind=3) :
  ∃ X g,Over w c n (l.eraseP (isK (c.a,c.b))) X g t.held/\(g.e=0 ↔ (l.find? (isK (c.a,c.b))).isSome=true):=by
 obtain⟨hb,hc,-,-⟩:=Gy hw hE
 have hM:=I.okc
 have hns:=hM.ok.ns
 have hkey:Ee c.a c.b=true:=by
  unfold Df at hc
  rw[if_pos (.inr hk)] at hc
  cases hkb:Ee c.a c.b
  ·rw[hkb] at hc;cases hc
  ·rfl
 obtain⟨X,g,e1,e2⟩:=b4s hM (Oi I hw hb) (c:=c) ⟨rfl,rfl,hk⟩ hkey
 have hgo:=Ve (held:=t.held) (fun f=>f.c.kind=3) (fun m f h=>by rw[b7o];exact h) (show (Aw c).c.kind=3 from hk)
  (fun m f h=>by unfold stepT;rw[if_neg (by show ¬ f.c.kind=1;omega),if_neg (by show ¬ f.c.kind=2;omega),if_pos h];rfl) (Si e1)
 refine⟨X,g,?_⟩
 unfold Dropped at e2
 cases hh:hasK w.m (Ba w.m) (c.a,c.b) with
 | true =>
  rw[hh,if_pos rfl] at e2
  obtain⟨a,p,q,e3,e4,e5,-,-,-,e6,-⟩:=e2
  obtain⟨a',-,-,hf⟩:=a1u hM S hh
  refine⟨Gt I hw hE (by omega) hgo ?_,?_⟩
  ·rw[<- e4];exact b2k hM S e3 e6
  ·rw[hf,e5];simp
 | false =>
  rw[hh,if_neg (by simp)] at e2
  have hf:=Xr S hh
  refine⟨Gt I hw hE (by omega) hgo ?_,?_⟩
  ·rw[Wj hf,e2.1];exact S
  ·rw[hf,e2.2];simp
theorem a3y(I:Bi w)(hw:w.ts=[t])(hE:doE w ⟨0,false,false,c⟩=0)(S:Sol l w.m)(hn:79<=n)(hk:c.kind=4) :
  ∃ X g,Over w c n (l.filter (Nq w.m.heads.length c.bk w.m.now)) X g t.held/\g.n=(l.length:Int) - (l.filter (Nq w.m.heads.length c.bk w.m.now)).length:=by
 obtain⟨hb,hc,-,-⟩:=Gy hw hE
 have hM:=I.okc
 have hns:=hM.ok.ns
 have hbk:inB c.bk 0 ((w.m.heads.length:Int) - 1)=true:=by
  unfold Df at hc
  rw[if_neg (by omega),if_neg (by omega),if_pos (.inl hk)] at hc
  cases hkb:inB c.bk 0 ((w.m.heads.length:Int) - 1)
  ·rw[hkb] at hc;cases hc
  ·rfl
 rw[Ai] at hbk
 obtain⟨b,hbe⟩:∃ b:Nat,c.bk=b:=⟨c.bk.toNat,by omega⟩
 obtain⟨X,g,e1,e2,e3,e4,e5⟩:=b6s hM (Oi I hw hb) (b:=b) (by omega) (c:=c) hk hbe
 have hgo:=Ve (held:=t.held) (fun f=>f.c.kind=4) (fun m f h=>by rw[b2v];exact h) (show (Aw c).c.kind=4 from hk)
  (fun m f h=>by unfold stepT;rw[if_neg (by show ¬ f.c.kind=1;omega),if_neg (by show ¬ f.c.kind=2;omega),if_neg (by show ¬ f.c.kind=3;omega),if_neg (by show ¬ f.c.kind=6;omega)];rfl) (Si e1)
 have S2:=a8n hM S (b:=b) (by omega) e4
 rw[<- hbe] at S2
 refine⟨X,g,Gt I hw hE (by omega) hgo S2,?_⟩
 rw[Vd S2,Vd S]
 exact e5
theorem a8p(I:Bi w)(hw:w.ts=[t])(hE:doE w ⟨0,false,false,c⟩=0)(S:Sol l w.m)(hn:79<=n)(hk:c.kind=5) :
  ∃ X g,Over w c n l X g t.held:=by
 obtain⟨hb,hc,-,-⟩:=Gy hw hE
 have hM:=I.okc
 have hns:=hM.ok.ns
 have hbk:inB c.bk 0 ((w.m.heads.length:Int) - 1)=true:=by
  unfold Df at hc
  rw[if_neg (by omega),if_neg (by omega),if_pos (.inr hk)] at hc
  cases hkb:inB c.bk 0 ((w.m.heads.length:Int) - 1)
  ·rw[hkb] at hc;cases hc
  ·rfl
 rw[Ai] at hbk
 obtain⟨b,hbe⟩:∃ b:Nat,c.bk=b:=⟨c.bk.toNat,by omega⟩
 obtain⟨g,e1,e2,e3⟩:=b5n hM (Oi I hw hb) (b:=b) (by omega) (c:=c) hk hbe
 have hgo:=Ve (held:=t.held) (fun f=>f.c.kind=5) (fun m f h=>by rw[b2v];exact h) (show (Aw c).c.kind=5 from hk)
  (fun m f h=>by unfold stepT;rw[if_neg (by show ¬ f.c.kind=1;omega),if_neg (by show ¬ f.c.kind=2;omega),if_neg (by show ¬ f.c.kind=3;omega),if_neg (by show ¬ f.c.kind=6;omega)];rfl) (Si e1)
 exact⟨w.m,g,Gt I hw hE (by omega) hgo S⟩
theorem a3x(I:Bi w)(hw:w.ts=[t])(hE:doE w ⟨0,false,false,c⟩=0)(S:Sol l w.m)(hn:79<=n)(hk:c.kind=6) :
  c.slot∈t.held/\∃ X g,Over w c n l X g (t.held.erase c.slot):=by
 obtain⟨hb,hc,hsl,-⟩:=Gy hw hE
 have hm:=hsl hk
 have hM:=I.okc
 have hh:=(I.held t (by rw[hw];simp)).2 c.slot hm
 have h1:Bi ⟨w.m,[⟨false,t.f,t.held⟩]⟩:=by
  have h2:w=⟨w.m,[⟨false,t.f,t.held⟩]⟩:=by
   cases w;cases t
   simp only at hw hb
   rw[hw,hb]
  rw[<- h2];exact I
 have h2:=Ui h1 hh
 have h3:1<=t.held.count c.slot:=List.count_pos_iff.2 hm
 have hmp:=Kt w.m c.slot
 have E:=Oe hM 0 hh (by omega) (fun hx=>by have:=Lh hx;omega)
 refine⟨hm,Ec w.m c.slot,Af (Aw c) 0,Gt I hw hE (N:=1) (by omega) ⟨1,by omega,?_⟩ (Zq S (Yj hM E))⟩
 show I7 _=_
 rw[Qu (i:=0) (by simp) (fun j u hj hne=>by
  cases j with
  | zero=>exact(hne rfl).elim
  | succ j=>simp at hj),Rj (t:=⟨true,Aw c,t.held⟩) rfl rfl]
 have es:stepT w.m 0 ⟨true,Aw c,t.held⟩=(Ec w.m c.slot,⟨false,Af (Aw c) 0,t.held.erase c.slot⟩):=by
  unfold stepT
  rw[if_neg (by show ¬ c.kind=1;omega),if_neg (by show ¬ c.kind=2;omega),if_neg (by show ¬ c.kind=3;omega),if_pos (by exact hk)]
  show (if c.slot∈t.held then Ec w.m c.slot else w.m,Vf ⟨true,Aw c,t.held⟩)=_
  rw[if_pos hm]
  rfl
 show (⟨(stepT w.m 0 ⟨true,Aw c,t.held⟩).1,[(stepT w.m 0 ⟨true,Aw c,t.held⟩).2]⟩:Wd)=_
 rw[es]
end
theorem b2l{l:List En}{M:Mm}(hM:OkC M)(S:Sol l M){f:Fl}(hf:f∈Bf M):l.find? (isK (f.a,f.b))=some ((f.a,f.b),f.unt):=by
 obtain⟨a,ha,rfl⟩:=List.mem_map.1 hf
 exact U0 hM S ha
theorem a8m{M:Mm}(hM:OkC M)(a:Int):(((Bf M).map Fl.slot).count a:Int)=H8 M a:=by
 have e:(Bf M).map Fl.slot=Ba M:=by
  unfold Bf
  rw[List.map_map]
  exact List.map_id' (Ba M)
 rw[e]
 unfold H8
 by_cases h:a∈Ba M
 ·rw[if_pos h]
  have h1:=List.nodup_iff_count.1 (Gi hM.keys) a
  have h2:=List.count_pos_iff.2 h
  omega
 ·rw[if_neg h,List.count_eq_zero.2 h]
  rfl
end
section
open Go.ChangeShapes Go.WideShapes Go.ChangeAt Go.RowKit Go.Joins Go.Deep Go.Maps
def enE(e:En):List Value:=[O J e.1.1,O J e.1.2,O J e.2]
def Gu(l:List En):List Value:=l.flatMap enE
theorem G9(s:En)(l:List En):Gu (s :: l)=enE s++Gu l:=by simp[Gu]
theorem b0l(l l':List En):Gu (l++l')=Gu l++Gu l':=by simp[Gu]
theorem La(l:List En):(Gu l).length=l.length*3:=by
 induction l with
 | nil=>rfl
 | cons s l ih=>rw[G9,List.length_append,ih];simp[enE];omega
theorem W9:∀ (l:List En) (i q:Nat) (h:i<l.length),q<3->(Gu l)[i*3+q]?=(enE l[i])[q]?
 | [],i,q,h,_=>by simp at h
 | s :: l,0,q,h,hq=>by
  rw[G9,List.getElem?_append_left (by rw[Nat.zero_mul,Nat.zero_add];exact hq)]
  simp
 | s :: l,i+1,q,h,hq=>by
  have hl:(enE s).length=3:=rfl
  rw[G9,List.getElem?_append_right (by rw[hl];omega),hl,show (i+1)*3+q - 3=i*3+q by omega]
  exact W9 l i q (by simpa using h) hq
structure EO(w:World)(lo:Nat)(v:Value)(l:List En):Prop where
 own:w.ownsRow lo 87 3 v l.length (Gu l)
theorem EO.same{w w':World}{lo:Nat}{v:Value}{l:List En}(h:EO w lo v l)(hk:∀ g,v.ownBlock=some g->w'.heap[g]?=w.heap[g]?):EO w' lo v l:=⟨Dx h.own hk⟩
theorem EO.below{w w':World}{lo:Nat}{v:Value}{l:List En}(h:EO w lo v l)(hb:Below w.heap.size w w'):EO w' lo v l:=h.same fun g hg=>hb.block g (h.own.lt g hg).2
theorem EO.at_{w:World}{lo:Nat}{v:Value}{l:List En}(h:EO w lo v l){i:Nat}(hi:i<l.length):∃ g c,v=Y (some ⟨g,0,none⟩) l.length c/\l.length<=c/\w.cell? ⟨g,i*3,none⟩=some (O J l[i].1.1)/\w.cell? ⟨g,i*3+1,none⟩=some (O J l[i].1.2)/\w.cell? ⟨g,i*3+2,none⟩=some (O J l[i].2)/\lo<=g/\g<w.heap.size:=by
 obtain⟨ao,c,rfl⟩:=D9 h.own
 obtain⟨g,rfl,hc,hg,hg2,hcell⟩:=a7z h.own (by omega)
 have e:∀ q,q<3->w.cell? ⟨g,i*3+q,none⟩=(enE l[i])[q]?:=fun q hq=>by rw[hcell _ (by omega),W9 l i q hi hq]
 exact⟨g,c,rfl,hc,e 0 (by omega),e 1 (by omega),e 2 (by omega),hg,hg2⟩
def a2h(l:List En)(p:En->Bool)(i:Int):Prop:=(i=-1/\l.any p=false)\/∃ k:Nat,i=(k:Int)/\(l.take k).any p=false/\∃ h:k<l.length,p l[k]=true
theorem Oz{l:List En}{p:En->Bool}{i:Int}(h:a2h l p i):(i=-1/\l.find? p=none)\/∃ k:Nat,i=(k:Int)/\∃ h:k<l.length,l.find? p=some l[k]/\l.eraseIdx k=l.eraseP p:=by
 rcases h with ⟨rfl,h⟩|⟨k,rfl,h,hk,hp⟩
 ·refine .inl ⟨rfl,List.find?_eq_none.2 fun x hx hh=>?_⟩
  have:=List.any_eq_false.1 h x hx
  exact this hh
 ·refine .inr ⟨k,rfl,hk,?_⟩
  have hno:∀ x∈l.take k,¬ (p x=true):=fun x hx=>List.any_eq_false.1 h x hx
  have e:l=l.take k++l[k] :: l.drop (k+1):=by
   rw[<- List.drop_eq_getElem_cons hk,List.take_append_drop]
  constructor
  ·conv=>lhs;rw[e]
   rw[List.find?_append,List.find?_eq_none.2 hno,List.find?_cons_of_pos hp]
   rfl
  ·rw[List.eraseIdx_eq_take_drop_succ]
   conv=>rhs;rw[e]
   rw[List.eraseP_append_right _ (by simpa using hno),List.eraseP_cons_of_pos hp]
theorem a5v{l:List En}{p:En->Bool}{k:Nat}(hk:k<l.length)(h:(l.take k).any p=false)(h':p l[k]=false):(l.take (k+1)).any p=false:=by
 rw[List.take_succ_eq_append_getElem hk,List.any_append,h]
 simp[h']
set_option maxHeartbeats 1600000 in
theorem idxE(F:Nat)(caps:Array Value)(p:En->Bool)(lo:Nat)(v:Value)(l:List En)(w:World)(hbig:l.length<=1000)(h:EO w lo v l)(hF:∀ args W,(callFunc F args).run Tryz.prog W=.ok (.enter F args) W)
  (hp:∀ (x:En) W,x∈l->Below w.heap.size w W->Calls Tryz.prog F (#[.agg #[O J x.1.1,O J x.1.2,O J x.2]] ++ caps) W fun e W'=>e=.returned (.bool (p x))/\Below W.heap.size W W') :
  Calls Tryz.prog 44 #[v,.func (.func F) #[] caps] w fun e w'=>∃ i:Int,e=.returned (O J i)/\a2h l p i/\Below w.heap.size w w':=by
 obtain⟨ao,cap,rfl⟩:=D9 h.own
 have HAT:Hid (EO w lo (Y ao l.length cap) l):=h
 have HP:Hid (∀ (x:En) W,x∈l->Below w.heap.size w W->Calls Tryz.prog F (#[.agg #[O J x.1.1,O J x.1.2,O J x.2]] ++ caps) W fun e W'=>e=.returned (.bool (p x))/\Below W.heap.size W W'):=hp
 have HFn:Hid (∀ args W,(callFunc F args).run Tryz.prog W=.ok (.enter F args) W):=hF
 clear h hp hF
 go_enter Tryz.func44,Tryz.ntmps44
 go_wp2
 go_loopw [8] (fun i wr=>∃ k:Nat,k<=l.length/\i=O J k/\Hid (Below w.heap.size w wr)/\Hid ((l.take k).any p=false)) (fun i _=>l.length - (intOf i).toNat)
 case atStart=>exact⟨0,Nat.zero_le _,rfl,Below.refl _ _,by show _=_;simp⟩
 case round =>
  obtain⟨k,hk,rfl,HB,HC⟩:=hrel
  by_cases hlt:k<l.length
  ·obtain⟨g,c,e,hc,c0,c1,c2,-,-⟩:=(HAT.out.below HB.out).at_ hlt
   injection e with e1 e2 e3
   subst e1 e3
   have HM:Hid (l[k] ∈ l):=List.getElem_mem hlt
   generalize hy:l[k]=y at c0 c1 c2 HM
   have HX:Hid (l[k]=y):=hy
   clear hy e2
   go_wp2_with fail
   rw[HFn.out]
   refine(HP.out y wr HM.out HB.out).mono ?_
   rintro e w1 ⟨rfl,hb1⟩
   have HB1:Hid (Below w.heap.size w w1):=HB.out.trans (hb1.mono HB.out.size)
   clear hb1 c0 c1 c2
   cases hh:p y
   ·have HH:Hid ((l.take (k+1)).any p=false):=a5v hlt HC.out (by rw[HX.out];exact hh)
    go_wp2
    go_roundw
    case rel=>exact⟨k+1,by omega,by go_num,HB1,HH⟩
    case measure=>simp[intOf];omega
   ·have HH:Hid (p l[k]=true):=by
     show _=_
     rw[HX.out];exact hh
    go_wp2
    go_ret
    exact⟨k,rfl,.inr ⟨k,rfl,HC.out,hlt,HH.out⟩,HB1.out⟩
  ·have HH:Hid (l.any p=false):=by
    have:=HC.out
    rw[show k=l.length by omega,List.take_length] at this
    exact this
   go_wp2
   go_ret
   exact⟨-1,rfl,.inl ⟨rfl,HH.out⟩,HB.out⟩
theorem b8w(a b:Int)(x:En):isK (a,b) x=(x.1.1==a && x.1.2==b):=by
 unfold isK
 obtain⟨⟨c,d⟩,u⟩:=x
 rw[Bool.eq_iff_iff]
 simp
theorem fnE45:∀ args W,(callFunc 45 args).run Tryz.prog W=.ok (.enter 45 args) W:=fun _ _=>by kernel_rfl
theorem b8z(a b:Int)(B:Nat)(x:En)(W:World)(hB:W.heap[B]?=some (.cells #[O J a,O J b] 30 (0,0))) :
  Calls Tryz.prog 45 (#[.agg #[O J x.1.1,O J x.1.2,O J x.2]] ++ #[.pointer (some ⟨B,0,none⟩)]) W fun e W'=>e=.returned (.bool (isK (a,b) x))/\Below W.heap.size W W':=by
 obtain⟨c0,c1⟩:=keyf hB
 have lB:=lt_of_block hB
 have ke:=P6 x.1.1 x.1.2 a b
 have hb:=Ad W (.cells #[O J x.1.1,O J x.1.2,O J x.2] 87)
 rw[b8w]
 clear hB
 generalize (x.1.1==a && x.1.2==b)=r at *
 show Calls Tryz.prog 45 #[.agg #[O J x.1.1,O J x.1.2,O J x.2],.pointer (some ⟨B,0,none⟩)] W _
 go_enter Tryz.func45,Tryz.ntmps45
 go_wp2
 go_ret
 exact⟨rfl,hb⟩
set_option maxHeartbeats 800000 in
theorem a0o(a b:Int)(L lo:Nat)(v:Value)(l:List En)(w:World)(hL:w.heap[L]?=some (.cells #[v] 83 (0,0)))(h:EO w lo v l)(hbig:l.length<=1000) :
  Calls Tryz.prog 43 #[.agg #[O J a,O J b],.pointer (some ⟨L,0,none⟩)] w fun e w'=>∃ i:Int,e=.returned (O J i)/\a2h l (isK (a,b)) i/\Below w.heap.size w w':=by
 obtain⟨ao,cap,rfl⟩:=D9 h.own
 obtain⟨ok,hok⟩:∃ o:Obj,o=.cells #[O J a,O J b] 30:=⟨_,rfl⟩
 have hb:Below w.heap.size w (w.alloc ok):=Ad _ _
 have HK:Hid ((w.alloc ok).heap[w.heap.size]?=some ok):=heap_alloc_new _ _
 have c0:w.cell? ⟨L,0,none⟩=some (Y ao l.length cap):=by rw[cell_of_block hL];rfl
 have hL2:=lt_of_block hL
 have Hb:Hid (Below w.heap.size w (w.alloc ok)):=hb
 have HE:Hid (EO (w.alloc ok) lo (Y ao l.length cap) l):=h.below hb
 clear hL h hb
 subst hok
 have hmf:∀ (fn:Fn) (first cap:Array Value) (w:World),(Instr.makeFunc fn first cap).run Tryz.prog w=.ok (.func fn first cap) w:=fun _ _ _ _=>rfl
 go_enter Tryz.func43,Tryz.ntmps43
 go_wp2_with fail
 generalize w.alloc _=V at *
 refine(idxE 45 #[.pointer (some ⟨w.heap.size,0,none⟩)] (isK (a,b)) lo _ l V hbig HE.out fnE45 (fun x W _ hb=>b8z a b w.heap.size x W ((hb.block _ (lt_of_block HK.out)).trans HK.out))).mono ?_
 rintro e w1 ⟨i,rfl,hi,hb1⟩
 have HI:Hid (a2h l (isK (a,b)) i):=hi
 have Hb1:Hid (Below w.heap.size w w1):=Hb.out.trans (hb1.mono Hb.out.size)
 clear hi hb1
 go_wp2
 go_ret
 exact⟨i,rfl,HI.out,Hb1.out⟩
end
section
open Go.ChangeShapes Go.WideShapes Go.ChangeAt Go.RowKit Go.Joins Go.Deep Go.Sort
def ovl:List Value->Nat->List Value->List Value
 | xs,_,[]=>xs
 | xs,o,v :: r=>ovl (xs.set o v) (o+1) r
theorem Tq:∀ (vs xs:List Value) (o j:Nat),j<o\/o+vs.length<=j->(ovl xs o vs)[j]?=xs[j]?
 | [],_,_,_,_=>rfl
 | v :: r,xs,o,j,h=>by
  show (ovl (xs.set o v) (o+1) r)[j]?=_
  rw[List.length_cons] at h
  rw[Tq r _ _ _ (by omega),List.getElem?_set_ne (by omega)]
theorem b1t:∀ (vs xs:List Value) (o j:Nat),j<vs.length->o+j<xs.length->(ovl xs o vs)[o+j]?=vs[j]?
 | [],_,_,_,h,_=>by simp at h
 | v :: r,xs,o,0,h,hx=>by
  show (ovl (xs.set o v) (o+1) r)[o]?=_
  rw[Tq r _ _ _ (by omega),List.getElem?_set_self (by omega)]
  rfl
 | v :: r,xs,o,j+1,h,hx=>by
  show (ovl (xs.set o v) (o+1) r)[o+(j+1)]?=_
  rw[show o+(j+1)=o+1+j by omega,b1t r _ _ j (by simpa using h) (by rw[List.length_set];omega)]
  rfl
theorem V9{lo g cap n size:Nat}{e:TypeId}:∀ (vs xs:List Value) (o:Nat) (w:World),w.ownsRow lo e size (Y (some ⟨g,0,none⟩) n cap) n xs->(w.setCells g o vs).ownsRow lo e size (Y (some ⟨g,0,none⟩) n cap) n (ovl xs o vs)
 | [],xs,o,w,h=>h
 | v :: r,xs,o,w,h=>V9 r (xs.set o v) (o+1) _ (h.stored o v).1
theorem a1j{w:World}{lo g cap n m size:Nat}{e:TypeId}{xs:List Value}(h:w.ownsRow lo e size (Y (some ⟨g,0,none⟩) n cap) n xs)(hm:m<=n):w.ownsRow lo e size (Y (some ⟨g,0,none⟩) m cap) m (xs.take (m*size)):=by
 have hle:=Nat.mul_le_mul_right size hm
 refine⟨by rw[List.length_take,h.1];omega,?_⟩
 rcases h.2 with ⟨h0,_⟩|⟨g',cap',cur,hv,hg,hh,hn,hcap,hsz,htake⟩
 ·cases h0
 ·cases hv
  refine .inr ⟨g,cap,cur,rfl,hg,hh,by omega,hcap,hsz,?_⟩
  rw[<- htake,List.take_take,Nat.min_eq_left hle]
theorem a0q{w w1:World}{g:Nat}(h:Fine w w1 (fun k=>k=g))(o:Nat)(vs:List Value):Fine w (w1.setCells g o vs) (fun k=>k=g) :=
 ⟨(Au _ _ _).1.trans h.os,(Au _ _ _).2.1.trans h.tape,(Au _ _ _).2.2.trans h.output,by rw[setCells_size];exact h.size,fun k h1 h2=>(Ae (fun e=>h2 e) _ _ _).trans (h.block k h1 h2)⟩
theorem b0m(l:List En):∀ u∈Gu l,u.oneCell'=true:=by
 intro u hu
 obtain⟨x,-,hx⟩:=List.mem_flatMap.1 hu
 simp only[enE,List.mem_cons,List.not_mem_nil,or_false] at hx
 rcases hx with rfl|rfl|rfl <;> rfl
theorem a2s(l:List En)(i:Nat):Gu (l.eraseIdx i)=(Gu l).take (i*3)++(Gu l).drop ((i+1)*3):=by
 induction l generalizing i with
 | nil=>simp[Gu]
 | cons s l ih =>
  have h4:(enE s).length=3:=rfl
  cases i with
  | zero=>rw[List.eraseIdx_cons_zero,G9];simp[enE]
  | succ i =>
   rw[List.eraseIdx_cons_succ,G9,G9,ih]
   have e1:(enE s++Gu l).take ((i+1)*3)=enE s++(Gu l).take (i*3):=by
    rw[List.take_append,h4,List.take_of_length_le (l:=enE s) (by rw[h4];omega),show (i+1)*3 - 3=i*3 by omega]
   have e2:(enE s++Gu l).drop ((i+1+1)*3)=(Gu l).drop ((i+1)*3):=by
    rw[List.drop_append,h4,List.drop_of_length_le (l:=enE s) (by rw[h4];omega),show (i+1+1)*3 - 3=(i+1)*3 by omega,List.nil_append]
   rw[e1,e2,List.append_assoc]
theorem iEn:(Tryz.prog.info? 87).map (fun i=>(i.zero,i.size,i.bytes))=some (some (.agg #[O J 0,O J 0,O J 0]),3,24):=by kernel_rfl
theorem Y8(w:World)(ty:TypeId)(b o n c:Nat)(hn:n=1)
  (hc:∀ j,j<3->(w.cell? ⟨b,o+j,none⟩).isSome=true) (hf:∀ j,j<3->w.frozen? ⟨b,o+j,none⟩=false) :
  (Builtin.clear_ #[83] ty #[Y (some ⟨b,o,none⟩) n c]).run Tryz.prog w=.ok (.tuple #[]) (w.setCells b o [O J 0,O J 0,O J 0]):=by
 subst hn
 have hv:∀ w,(zeroValue 87).run Tryz.prog w=.ok (.agg #[O J 0,O J 0,O J 0]) w:=fun w=>by kernel_rfl
 have hzc:(Builtin.zeroCells (Value.agg #[O J 0,O J 0,O J 0]).cells 1).toList=[O J 0,O J 0,O J 0]:=by kernel_rfl
 have hst:=run_storeCells_cells (P:=Tryz.prog) b o [O J 0,O J 0,O J 0] 0 w (by simpa using hc) (by simpa using hf) (by intro v hv';simp at hv';subst hv';rfl)
 simp only[Nat.add_zero] at hst
 simp[Builtin.clear_,run_underlying Tryz.underlying83,hv,hzc,hst]
theorem b2f{w:World}{lo g c i j:Nat}{l:List En}(hO:w.ownsRow lo 87 3 (Y (some ⟨g,0,none⟩) l.length c) l.length (Gu l))(hi:i<l.length)(hj:j=i+1)(q:Nat)(hq:q=l.length - 1)(zs:List Value) :
  EO (((w.drew).setCells g (i*3) ((Gu l).drop (j*3))).setCells g (q*3) zs) lo (Y (some ⟨g,0,none⟩) (l.eraseIdx i).length c) (l.eraseIdx i):=by
 subst hj hq
 have hlen:(l.eraseIdx i).length=l.length - 1:=List.length_eraseIdx_of_lt hi
 have h0:(w.drew).ownsRow lo 87 3 (Y (some ⟨g,0,none⟩) l.length c) l.length (Gu l):=Dx hO fun _ _=>rfl
 have h1:=a1j (V9 zs _ ((l.length - 1)*3) _ (V9 ((Gu l).drop ((i+1)*3)) _ (i*3) _ h0)) (m:=l.length - 1) (by omega)
 refine⟨?_⟩
 rw[hlen]
 have e:Gu (l.eraseIdx i)=(ovl (ovl (Gu l) (i*3) ((Gu l).drop ((i+1)*3))) ((l.length - 1)*3) zs).take ((l.length - 1)*3):=by
  have hd:((Gu l).drop ((i+1)*3)).length=(l.length - (i+1))*3:=by rw[List.length_drop,La];omega
  refine List.ext_getElem? fun t=>?_
  by_cases ht:t<(l.length - 1)*3
  ·rw[List.getElem?_take_of_lt ht,Tq _ _ _ _ (.inl ht),a2s,List.getElem?_append]
   have htk:((Gu l).take (i*3)).length=i*3:=by rw[List.length_take,La];omega
   rw[htk]
   by_cases h:t<i*3
   ·rw[if_pos h,Tq _ _ _ _ (.inl h),List.getElem?_take_of_lt h]
   ·rw[if_neg h]
    have:=b1t ((Gu l).drop ((i+1)*3)) (Gu l) (i*3) (t - i*3) (by rw[hd];omega) (by rw[La];omega)
    rw[show i*3+(t - i*3)=t by omega] at this
    rw[this]
  ·rw[List.getElem?_eq_none (by rw[La,hlen];omega),List.getElem?_eq_none (by rw[List.length_take];omega)]
 rw[e]
 exact h1
set_option maxHeartbeats 3200000 in
theorem b4l(g c i j lo:Nat)(l:List En)(w:World)(hO:EO w lo (Y (some ⟨g,0,none⟩) l.length c) l)(hi:i<l.length)(hj:j=i+1)(hbig:l.length<=1000) :
  Calls Tryz.prog 46 #[Y (some ⟨g,0,none⟩) l.length c,O J (i:Int),O J (j:Int)] w fun e w'=>e=.returned (Y (some ⟨g,0,none⟩) (l.eraseIdx i).length c)/\EO w' lo (Y (some ⟨g,0,none⟩) (l.eraseIdx i).length c) (l.eraseIdx i)/\Fine w w' (fun k=>k=g):=by
 have hlen:(l.eraseIdx i).length=i+(l.length - j):=by rw[List.length_eraseIdx_of_lt hi];omega
 obtain⟨i0,hi0,hz0,hz1,hz2⟩:=info_parts iEn
 obtain⟨hcap,hcm⟩:l.length<=c/\c<=maxLen:=by
  rcases hO.own.2 with ⟨h,-⟩|⟨g',cap,cur,h,-,-,hc,hm,-⟩
  ·cases h
  ·injection h with h1 h2 h3
   omega
 have hm:c<=9223372036854775807:=by unfold maxLen at hcm;exact hcm
 obtain⟨news,hnews⟩:∃ news,news=(Gu l).drop (j*3):=⟨_,rfl⟩
 have HE:Hid (∀ q zs,q=i+(l.length - j)->EO ((w.drew.setCells g (i*3) news).setCells g (q*3) zs) lo (Y (some ⟨g,0,none⟩) (l.eraseIdx i).length c) (l.eraseIdx i)):=fun q zs hq=>hnews ▸ b2f hO.own hi hj q (by omega) zs
 have hnl:news.length=(l.length - j)*3:=by rw[hnews,List.length_drop,La];omega
 have hcell:∀ t,t<l.length*3->(w.drew.cell? ⟨g,t,none⟩).isSome=true:=fun t ht=>by
  have e:w.drew.cell? ⟨g,t,none⟩=_:=hO.own.cellAt t ht
  rw[e,List.getElem?_eq_getElem (by rw[La];omega)]
  rfl
 have hfz:∀ t,w.drew.frozen? ⟨g,t,none⟩=false:=fun t=>hO.own.frozenAt t
 obtain⟨A,hA,hsrc⟩:∃ A:Addr,(if c=j then some (⟨g,0,none⟩:Addr) else some ⟨g,j*3,none⟩)=some A/\Hid (∀ t u,news[t]?=some u->w.drew.cell? (A.add t)=some u):=by
  by_cases h:c=j
  ·refine⟨⟨g,0,none⟩,by simp[h],fun t u hu=>?_⟩
   have h0:news.length=0:=by rw[hnl];omega
   rw[List.length_eq_zero_iff.1 h0] at hu
   simp at hu
  ·refine⟨⟨g,j*3,none⟩,by simp[h],fun t u hu=>?_⟩
   have ht:t<(l.length - j)*3:=by
    have:=(List.getElem?_eq_some_iff.1 hu).1
    rwa [hnl] at this
   rw[Addr.add_lit]
   have e:w.drew.cell? ⟨g,j*3+t,none⟩=_:=hO.own.cellAt (j*3+t) (by omega)
   rw[e,<- hu,hnews,List.getElem?_drop]
 have s1:Hid (news.length=(l.length - j)*3):=hnl
 have s2:Hid (∀ u∈news,u.oneCell'=true):=fun u hu=>b0m l u (List.mem_of_mem_drop (hnews ▸ hu))
 have s3:Hid (∀ t,t<news.length->(w.drew.cell? ⟨g,0+i*3+t,none⟩).isSome=true/\w.drew.frozen? ⟨g,0+i*3+t,none⟩=false):=fun t ht=>by
  rw[hnl] at ht
  exact⟨hcell _ (by omega),hfz _⟩
 obtain⟨W1,hW1⟩:∃ W1,W1=w.drew.setCells g (0+i*3) news:=⟨_,rfl⟩
 have hcl:∀ ty,(Builtin.clear_ #[83] ty #[Y (some ⟨g,(i+(l.length - j))*3,none⟩) (l.length - (i+(l.length - j))) (c - (i+(l.length - j)))]).run Tryz.prog W1=.ok (.tuple #[]) (W1.setCells g ((i+(l.length - j))*3) [O J 0,O J 0,O J 0]) :=
  fun ty=>Y8 W1 ty g _ _ _ (by omega) (fun t ht=>by
   rw[hW1,World.cell?_setCells_out g _ _ _ _ (fun _ _=>.inr (by rw[hnl];dsimp only;omega))]
   exact hcell _ (by omega)) (fun t ht=>by rw[hW1,World.frozen?_setCells];exact hfz _)
 have HB:Hid (Fine w W1 (fun k=>k=g)):=by
  show Fine w W1 _
  rw[hW1]
  exact a0q (⟨rfl,rfl,rfl,Nat.le_refl _,fun _ _ _=>rfl⟩:Fine w w.drew (fun k=>k=g)) _ _
 have hW:Hid (W1=w.drew.setCells g (0+i*3) news):=hW1
 have hic:i<=c:=by omega
 have hjc:j<=c:=by omega
 have hlt:i<j:=by omega
 have hjn:j<=l.length:=by omega
 rw[hlen] at HE ⊢
 clear hW1 hcell hfz hO hnews hnl hlen hj hi hcm
 generalize l.eraseIdx i=l' at *
 generalize l.length=n at *
 go_enter Tryz.func46,Tryz.ntmps46
 go_wp2_with fail
 go_region_law (refine step_append_room rfl _ _ 83 rfl 87 i0 3 Tryz.underlying83 hi0 hz1 g 0 i c (by simp[Act.eval,Act.put]) A (n - j) (c - j) news (by simp[Act.eval,Act.put]) s1.out hsrc.out s2.out (by omega) s3.out ?_;rw[<- hW.out])
 go_wp2
 go_ret
 refine⟨rfl,?_,a0q HB.out _ _⟩
 have h:=HE.out _ [O J 0,O J 0,O J 0] rfl
 rw[hW.out,Nat.zero_add]
 exact h
end
section
open Go.ChangeShapes Go.WideShapes Go.ChangeAt Go.RowKit Go.Joins Go.Deep Go.Sort
theorem Y7(w:World)(b o n c:Nat)(hn:0<n)(hc:∀ j,j<n*3->(w.cell? ⟨b,o+j,none⟩).isSome=true)(hf:∀ j,j<n*3->w.frozen? ⟨b,o+j,none⟩=false) :
  ∃ vs:List Value,vs.length=n*3/\∀ ty,(Builtin.clear_ #[83] ty #[Y (some ⟨b,o,none⟩) n c]).run Tryz.prog w=.ok (.tuple #[]) (w.setCells b o vs):=by
 have hv:∀ w,(zeroValue 87).run Tryz.prog w=.ok (.agg #[O J 0,O J 0,O J 0]) w:=fun w=>by kernel_rfl
 obtain⟨vs,hvs⟩:∃ vs:List Value,(Builtin.zeroCells (Value.agg #[O J 0,O J 0,O J 0]).cells n).toList=vs:=⟨_,rfl⟩
 have hlen:vs.length=n*3:=by rw[<- hvs,Array.length_toList,size_zeroCells];rfl
 have hone:∀ v∈vs,v.oneCell'=true:=by
  intro v hv'
  rw[<- hvs] at hv'
  simp only[Builtin.zeroCells,Array.toList_map,List.mem_map] at hv'
  obtain⟨i,-,rfl⟩:=hv'
  have h4:i % 3=0\/i % 3=1\/i % 3=2:=by omega
  have e:(Value.agg #[O J 0,O J 0,O J 0]).cells=#[O J 0,O J 0,O J 0]:=by kernel_rfl
  rw[e]
  show ((#[O J 0,O J 0,O J 0]:Array Value)[i % 3]!).oneCell'=true
  rcases h4 with h|h|h <;> rw[h] <;> rfl
 have hst:=run_storeCells_cells (P:=Tryz.prog) b o vs 0 w (by simpa [hlen] using hc) (by simpa [hlen] using hf) hone
 simp only[Nat.add_zero] at hst
 obtain⟨m,rfl⟩:∃ m,n=m+1:=⟨n - 1,by omega⟩
 exact⟨vs,hlen,fun ty=>by simp[Builtin.clear_,run_underlying Tryz.underlying83,hv,hvs,hst]⟩
theorem a0h:∀ (l:List En) (i:Nat) (h:i<l.length) (x:En),(((Gu l).set (i*3) (O J x.1.1)).set (i*3+1) (O J x.1.2)).set (i*3+2) (O J x.2)=Gu (l.set i x)
 | [],i,h,x=>by simp at h
 | s :: l,0,h,x=>by rw[List.set_cons_zero,G9,G9];simp[enE]
 | s :: l,i+1,h,x=>by
  have ih:=a0h l i (by simpa using h) x
  rw[List.set_cons_succ,G9,G9,<- ih,show (i+1)*3=i*3+3 by omega]
  simp[enE]
theorem a6k(l:List En)(i:Nat):Gu (l.take i)=(Gu l).take (i*3):=by
 induction l generalizing i with
 | nil=>simp[Gu]
 | cons s l ih =>
  cases i with
  | zero=>simp[Gu]
  | succ i =>
   rw[List.take_succ_cons,G9,G9,ih,List.take_append,show (enE s).length=3 from rfl,List.take_of_length_le (l:=enE s) (by rw[show (enE s).length=3 from rfl];omega),show (i+1)*3 - 3=i*3 by omega]
theorem b9j{w:World}{lo g cap:Nat}{C:List En}(h:EO w lo (Y (some ⟨g,0,none⟩) C.length cap) C)(i:Nat)(hi:i<C.length) :
  w.cell? ⟨g,i*3,none⟩=some (O J C[i].1.1)/\w.cell? ⟨g,i*3+1,none⟩=some (O J C[i].1.2)/\w.cell? ⟨g,i*3+2,none⟩=some (O J C[i].2) /\
   w.frozen? ⟨g,i*3,none⟩=false/\w.frozen? ⟨g,i*3+1,none⟩=false/\w.frozen? ⟨g,i*3+2,none⟩=false:=by
 have e:∀ q,q<3->w.cell? ⟨g,i*3+q,none⟩=(enE C[i])[q]?:=fun q hq=>by rw[h.own.cellAt _ (by omega),W9 C i q hi hq]
 exact⟨e 0 (by omega),e 1 (by omega),e 2 (by omega),h.own.frozenAt _,h.own.frozenAt _,h.own.frozenAt _⟩
theorem b1u{w:World}{lo g cap:Nat}{C:List En}(h:EO w lo (Y (some ⟨g,0,none⟩) C.length cap) C)(i:Nat)(hi:i<C.length)(x:En) :
  EO (((w.setCell ⟨g,i*3,none⟩ (O J x.1.1)).setCell ⟨g,i*3+1,none⟩ (O J x.1.2)).setCell ⟨g,i*3+2,none⟩ (O J x.2)) lo (Y (some ⟨g,0,none⟩) (C.set i x).length cap) (C.set i x):=by
 refine⟨?_⟩
 rw[List.length_set,<- a0h C i hi x]
 exact(((h.own.stored _ _).1.stored _ _).1.stored _ _).1
theorem Wp{p:En->Bool}{l:List En}(h:l.any p=false):l.filter (fun x=>!p x)=l :=
 List.filter_eq_self.2 fun x hx=>by
  have:=List.any_eq_false.1 h x hx
  simpa using this
set_option maxHeartbeats 3200000 in
theorem a6h(F:Nat)(caps:Array Value)(p:En->Bool)(lo:Nat)(v:Value)(L:List En)(w:World)(h:EO w lo v L)(hbig:L.length<=1000)(hF:∀ args W,(callFunc F args).run Tryz.prog W=.ok (.enter F args) W)
  (hp:∀ (x:En) W,x∈L->Fine w W (fun k=>v.ownBlock=some k)->Calls Tryz.prog F (#[.agg #[O J x.1.1,O J x.1.2,O J x.2]] ++ caps) W fun e W'=>e=.returned (.bool (p x))/\Below W.heap.size W W') :
  Calls Tryz.prog 47 #[v,.func (.func F) #[] caps] w fun e w'=>∃ v',e=.returned v'/\EO w' lo v' (L.filter (fun x=>!p x))/\v'.ownBlock=v.ownBlock/\Fine w w' (fun k=>v.ownBlock=some k):=by
 obtain⟨R,hR⟩:∃ R,R=L.filter (fun x=>!p x):=⟨_,rfl⟩
 rw[<- hR]
 have HR:Hid (R=L.filter (fun x=>!p x)):=hR
 have HIx:Hid (Calls Tryz.prog 44 #[v,.func (.func F) #[] caps] w fun e w'=>∃ i:Int,e=.returned (O J i)/\a2h L p i/\Below w.heap.size w w'):=idxE F caps p lo v L w hbig h hF (fun x W hx hb=>hp x W hx (Fine.of_below _ hb))
 obtain⟨ao,cap,rfl⟩:=D9 h.own
 have HO:Hid (EO w lo (Y ao L.length cap) L):=h
 have HP:Hid (∀ (x:En) W,x∈L->Fine w W (fun k=>(Value.slice ao L.length cap).ownBlock=some k)->Calls Tryz.prog F (#[.agg #[O J x.1.1,O J x.1.2,O J x.2]] ++ caps) W fun e W'=>e=.returned (.bool (p x))/\Below W.heap.size W W'):=hp
 have HFn:Hid (∀ args W,(callFunc F args).run Tryz.prog W=.ok (.enter F args) W):=hF
 have HBig:Hid (L.length<=1000):=hbig
 clear h hp hF hR
 go_enter Tryz.func47,Tryz.ntmps47
 go_wp2_with fail
 refine HIx.out.mono ?_
 rintro e w1 ⟨i,rfl,hi,hb1⟩
 have HB1:Hid (Below w.heap.size w w1):=hb1
 clear HIx hb1
 rcases hi with ⟨rfl,hno⟩|⟨i,rfl,hfirst,hil,hpi⟩
 ·have HRL:Hid (R=L):=HR.out.trans (Wp hno)
  clear hno
  go_wp2
  go_ret
  exact⟨_,rfl,by rw[HRL.out];exact HO.out.below HB1.out,rfl,Fine.of_below _ HB1.out⟩
 obtain⟨g,cc,e,hcap,-,-,-,-,-⟩:=HO.out.at_ hil
 injection e with e1 e2 e3
 subst e1 e3
 have HO1:Hid (EO w1 lo (Y (some ⟨g,0,none⟩) L.length cap) L):=HO.out.below HB1.out
 have HT1:Hid (L.take i=(L.take (i+1)).filter (fun x=>!p x)):=by
  show _=_
  rw[List.take_succ_eq_append_getElem hil,List.filter_append,Wp hfirst]
  simp[hpi]
 have HF1:Hid (Fine w w1 (fun k=>(Value.slice (some ⟨g,0,none⟩) L.length cap).ownBlock=some k)):=Fine.of_below _ HB1.out
 clear hfirst hpi e2 HO
 go_wp2_with fail
 go_loopw [5,6] (fun vi vj wr=>∃ i j:Nat,vi=O J i/\vj=O J j/\i<j/\j<=L.length/\∃ C:List En,Hid (C.length=L.length)/\Hid (EO wr lo (Y (some ⟨g,0,none⟩) C.length cap) C)/\Hid (C.take i=(L.take j).filter (fun x=>!p x))/\Hid (C.drop j=L.drop j)/\Hid (Fine w wr (fun k=>(Value.slice (some ⟨g,0,none⟩) L.length cap).ownBlock=some k))) (fun _ vj _=>L.length - (intOf vj).toNat)
 case atStart=>exact⟨i,i+1,rfl,by go_num,by omega,by omega,L,rfl,HO1.out,HT1.out,rfl,HF1.out⟩
 case round =>
  obtain⟨i,j,rfl,rfl,hij,hjn,C,HCL,HOC,HTC,HDC,HFC⟩:=hrel
  clear HO1 HT1 HB1 HF1
  have hgl:=(HOC.out.own.lt g rfl).2
  by_cases hlt:j<L.length
  ·have hjC:j<C.length:=by rw[HCL.out];exact hlt
   have hiC:i<C.length:=by rw[HCL.out];omega
   have hCj:C[j]=L[j]:=by
    have:=congrArg (fun l=>l[0]?) HDC.out
    simpa [List.getElem?_drop,hjC,hlt] using this
   obtain⟨c0,c1,c2,-,-,-⟩:=b9j HOC.out j hjC
   obtain⟨d0,d1,d2,z0,z1,z2⟩:=b9j HOC.out i hiC
   rw[hCj] at c0 c1 c2
   have HM:Hid (L[j] ∈ L):=List.getElem_mem hlt
   generalize hy:L[j]=y at c0 c1 c2 HM
   have HY:Hid (L[j]=y):=hy
   clear hy hCj
   obtain⟨ov,hov⟩:∃ o:Obj,o=.cells #[O J y.1.1,O J y.1.2,O J y.2] 87:=⟨_,rfl⟩
   have HF2:Hid (Fine w (wr.alloc ov) (fun k=>(Value.slice (some ⟨g,0,none⟩) L.length cap).ownBlock=some k)):=HFC.out.below (Ad _ _)
   have HV:Hid ((wr.alloc ov).heap[wr.heap.size]?=some ov):=heap_alloc_new _ _
   have HO2:Hid (EO (wr.alloc ov) lo (Y (some ⟨g,0,none⟩) C.length cap) C):=HOC.out.below (Ad _ _)
   go_wp2_with fail
   rw[HFn.out,<- hov]
   clear c0 c1 c2 d0 d1 d2 z0 z1 z2 HOC HFC
   have hXg:wr.heap.size≠g:=by omega
   generalize wr.alloc ov=W2 at *
   generalize hXv:wr.heap.size=X at *
   subst hov
   refine(HP.out y W2 HM.out HF2.out).mono ?_
   rintro e w3 ⟨rfl,hb3⟩
   have HF3:Hid (Fine w w3 (fun k=>(Value.slice (some ⟨g,0,none⟩) L.length cap).ownBlock=some k)):=HF2.out.below hb3
   have hv3:=(hb3.block X (lt_of_block HV.out)).trans HV.out
   have HO3:Hid (EO w3 lo (Y (some ⟨g,0,none⟩) C.length cap) C):=HO2.out.below hb3
   have v0:w3.cell? ⟨X,0,none⟩=some (O J y.1.1):=by rw[cell_of_block hv3];rfl
   have v1:w3.cell? ⟨X,1,none⟩=some (O J y.1.2):=by rw[cell_of_block hv3];rfl
   have v2:w3.cell? ⟨X,2,none⟩=some (O J y.2):=by rw[cell_of_block hv3];rfl
   clear hb3 hv3 HV HF2 HO2
   obtain⟨d0,d1,d2,z0,z1,z2⟩:=b9j HO3.out i hiC
   cases hh:p y
   ·have HT3:Hid ((C.set i y).take (i+1)=(L.take (j+1)).filter (fun x=>!p x)):=by
     show _=_
     rw[List.take_succ_eq_append_getElem hlt,List.filter_append,<- HTC.out,List.take_succ_eq_append_getElem (by rw[List.length_set];exact hiC)]
     rw[List.take_set_of_le (by omega)]
     simp[HY.out,hh]
    have HD3:Hid ((C.set i y).drop (j+1)=L.drop (j+1)):=by
     show _=_
     rw[List.drop_set_of_lt (by omega)]
     have:=congrArg (List.drop 1) HDC.out
     simpa [List.drop_drop,Nat.add_comm] using this
    have HO4:Hid _:=b1u HO3.out i hiC y
    have HF4:Hid (Fine w (((w3.setCell ⟨g,i*3,none⟩ (O J y.1.1)).setCell ⟨g,i*3+1,none⟩ (O J y.1.2)).setCell ⟨g,i*3+2,none⟩ (O J y.2)) (fun k=>(Value.slice (some ⟨g,0,none⟩) L.length cap).ownBlock=some k)):=((HF3.out.set (k:=g) (.inl rfl) (i*3) (O J y.1.1)).set (k:=g) (.inl rfl) (i*3+1) (O J y.1.2)).set (k:=g) (.inl rfl) (i*3+2) (O J y.2)
    clear hh
    go_wp2
    go_roundw
    case rel=>exact⟨_,_,_,_,_,_,_,_,_,_,_,_,_,_,_,_,_,_,_,_,_,_,_,⟨i+1,j+1,by go_num,by go_num,by omega,by omega,C.set i y,by show _=_;rw[List.length_set];exact HCL.out,HO4.out,HT3.out,HD3.out,HF4.out⟩,rfl⟩
    case measure=>simp[intOf];omega
   ·have HT3:Hid (C.take i=(L.take (j+1)).filter (fun x=>!p x)):=by
     show _=_
     rw[List.take_succ_eq_append_getElem hlt,List.filter_append,<- HTC.out]
     simp[HY.out,hh]
    have HD3:Hid (C.drop (j+1)=L.drop (j+1)):=by
     show _=_
     have:=congrArg (List.drop 1) HDC.out
     simpa [List.drop_drop,Nat.add_comm] using this
    clear hh
    go_wp2
    go_roundw
    case rel=>exact⟨_,_,_,_,_,_,_,_,_,_,_,_,_,_,_,_,_,_,_,_,_,_,_,⟨i,j+1,rfl,by go_num,by omega,by omega,C,HCL.out,HO3.out,HT3.out,HD3.out,HF3.out⟩,rfl⟩
    case measure=>simp[intOf];omega
  ·obtain rfl:j=L.length:=by omega
   have hRi:R=C.take i:=by rw[HR.out,HTC.out,List.take_length]
   have hRl:R.length=i:=by rw[hRi,List.length_take,HCL.out];omega
   have hLc:L.length<=cap:=hcap
   obtain⟨vs,hvl,hcl⟩:=Y7 wr g (i*3) (L.length - i) (cap - i) (by omega) (fun t ht=>by
    rw[HOC.out.own.cellAt _ (by rw[HCL.out];omega),List.getElem?_eq_getElem (by rw[La,HCL.out];omega)];rfl) (fun t ht=>HOC.out.own.frozenAt _)
   have HEnd:Hid (EO (wr.setCells g (i*3) vs) lo (Y (some ⟨g,0,none⟩) R.length cap) R/\Fine w (wr.setCells g (i*3) vs) (fun k=>(Value.slice (some ⟨g,0,none⟩) L.length cap).ownBlock=some k)):=by
    have hx:=a1j (V9 vs _ (i*3) _ HOC.out.own) (m:=i) (by rw[HCL.out];omega)
    refine⟨⟨?_⟩,?_⟩
    ·rw[hRl,hRi,a6k]
     have e:(ovl (Gu C) (i*3) vs).take (i*3)=(Gu C).take (i*3):=by
      refine List.ext_getElem? fun t=>?_
      by_cases ht:t<i*3
      ·rw[List.getElem?_take_of_lt ht,List.getElem?_take_of_lt ht,Tq _ _ _ _ (.inl ht)]
      ·rw[List.getElem?_eq_none (by rw[List.length_take];omega),List.getElem?_eq_none (by rw[List.length_take];omega)]
     rw[<- e]
     exact hx
    ·refine⟨(Au _ _ _).1.trans HFC.out.os,(Au _ _ _).2.1.trans HFC.out.tape,(Au _ _ _).2.2.trans HFC.out.output,by rw[setCells_size];exact HFC.out.size,fun k h1 h2=>(Ae (fun e=>h2 (by rw[e];rfl)) _ _ _).trans (HFC.out.block k h1 h2)⟩
   have hic:i<=cap:=by omega
   have hiL:i<=L.length:=by omega
   have hci:¬ cap=i:=by omega
   have HRl:Hid (R.length=i):=hRl
   clear hRi hRl hvl HOC HTC HDC HFC HCL
   go_wp2
   go_ret
   exact⟨Y (some ⟨g,0,none⟩) R.length cap,by rw[HRl.out];rfl,HEnd.out.1,rfl,HEnd.out.2⟩
end
section
open Go.ChangeShapes Go.WideShapes Go.ChangeAt Go.RowKit Go.Joins Go.Deep Go.Maps
theorem fnE48:∀ args W,(callFunc 48 args).run Tryz.prog W=.ok (.enter 48 args) W:=fun _ _=>by kernel_rfl
theorem fnE51:∀ args W,(callFunc 51 args).run Tryz.prog W=.ok (.enter 51 args) W:=fun _ _=>by kernel_rfl
theorem b7p:∀ args W,(callFunc 43 args).run Tryz.prog W=.ok (.enter 43 args) W:=fun _ _=>by kernel_rfl
set_option maxHeartbeats 1600000 in
theorem b9a(nb:Nat)(n1:1<=nb)(n4:nb<=4)(c:Cl)(W:Wd)(aS aH aF aL:Option Addr)(cS cH cF cL:Nat)(aT:Option Addr)(cT:Nat)(A B C:Nat)(x:En)(hk:Ee x.1.1 x.1.2=true)(w:World)(hA:w.heap[A]?=some (.cells #[.int .i64 (nb:Int)] 3 (0,0)))(hB:w.heap[B]?=some (.cells #[.int .i64 c.kind,.int .i64 c.a,.int .i64 c.b,.int .i64 c.time,.int .i64 c.bk,.int .i64 c.slot] 32 (0,0)))(hC:w.heap[C]?=some (.cells #[.slice aS W.m.slots.length cS,.slice aH W.m.heads.length cH,.slice aF W.m.free.length cF,.slice aL W.m.locks.length cL,.int .i64 W.m.now,.slice aT W.ts.length cT] 28 (0,0))) :
  Calls Tryz.prog 48 (#[.agg #[.int .i64 x.1.1,.int .i64 x.1.2,.int .i64 x.2]] ++ #[.pointer (some ⟨A,0,none⟩),.pointer (some ⟨B,0,none⟩),.pointer (some ⟨C,0,none⟩)]) w fun e w'=>e=.returned (.bool (!Nq nb c.bk W.m.now x))/\Below w.heap.size w w':=by
 obtain⟨ox,hox⟩:∃ o:Obj,o=.cells #[.int .i64 x.1.1,.int .i64 x.1.2,.int .i64 x.2] 87:=⟨_,rfl⟩
 have b0:Below w.heap.size w (w.alloc ox):=Ad _ _
 have HX0:Hid ((w.alloc ox).heap[w.heap.size]?=some ox):=heap_alloc_new _ _
 have a0:w.cell? ⟨A,0,none⟩=some (.int .i64 (nb:Int)):=by rw[cell_of_block hA];rfl
 have la:=lt_of_block hA
 have HB:Hid (w.heap[B]?=some (.cells #[.int .i64 c.kind,.int .i64 c.a,.int .i64 c.b,.int .i64 c.time,.int .i64 c.bk,.int .i64 c.slot] 32 (0,0))):=hB
 have HC:Hid (w.heap[C]?=some (.cells #[.slice aS W.m.slots.length cS,.slice aH W.m.heads.length cH,.slice aF W.m.free.length cF,.slice aL W.m.locks.length cL,.int .i64 W.m.now,.slice aT W.ts.length cT] 28 (0,0))):=hC
 have HK:Hid (Ee x.1.1 x.1.2=true):=hk
 have HV:Hid ((!Nq nb c.bk W.m.now x)=(Eh x.1.1 x.1.2 nb==c.bk && decide (x.2<=W.m.now))):=by
  show _=_
  unfold Nq
  rw[Bool.not_not]
 have Hb0:Hid (Below w.heap.size w (w.alloc ox)):=b0
 clear hA hB hC hk b0
 subst hox
 show Calls Tryz.prog 48 #[.agg #[.int .i64 x.1.1,.int .i64 x.1.2,.int .i64 x.2],.pointer (some ⟨A,0,none⟩),.pointer (some ⟨B,0,none⟩),.pointer (some ⟨C,0,none⟩)] w _
 go_enter Tryz.func48,Tryz.ntmps48
 go_wp2_with fail
 generalize w.alloc _=V at *
 refine(U2 x.1.1 x.1.2 nb V HK.out n1 n4).mono ?_
 rintro e w1 ⟨rfl,hb1⟩
 have Hb1:Hid (Below w.heap.size w w1):=Hb0.out.trans (hb1.mono Hb0.out.size)
 have hX1:=(hb1.block _ (lt_of_block HX0.out)).trans HX0.out
 have hB1:=(Hb1.out.block _ (lt_of_block HB.out)).trans HB.out
 have hC1:=(Hb1.out.block _ (lt_of_block HC.out)).trans HC.out
 have x2:w1.cell? ⟨w.heap.size,2,none⟩=some (.int .i64 x.2):=by rw[cell_of_block hX1];rfl
 have b4:w1.cell? ⟨B,4,none⟩=some (.int .i64 c.bk):=by rw[cell_of_block hB1];rfl
 have c4:w1.cell? ⟨C,4,none⟩=some (.int .i64 W.m.now):=by rw[cell_of_block hC1];rfl
 clear hb1 hX1 hB1 hC1 HX0 Hb0 HB HC a0 la HK n1 n4
 generalize Eh x.1.1 x.1.2 nb=bv at *
 cases h1:(bv==c.bk)
 ·have HV':Hid ((!Nq nb c.bk W.m.now x)=false):=HV.out.trans (by rw[h1];rfl)
  go_wp2
  go_ret
  exact⟨by rw[HV'.out];rfl,Hb1.out⟩
 ·have HV':Hid ((!Nq nb c.bk W.m.now x)=decide (x.2<=W.m.now)):=HV.out.trans (by rw[h1];simp)
  go_wp2
  go_ret
  exact⟨by rw[HV'.out];rfl,Hb1.out⟩
set_option maxHeartbeats 1600000 in
theorem b9b(F L lo:Nat)(v:Value)(l:List En)(x:Fl)(w:World)(hF:w.heap[F]?=some (.cells #[.func (.func 43) #[] #[.pointer (some ⟨L,0,none⟩)]] 89 (0,0)))(hL:w.heap[L]?=some (.cells #[v] 83 (0,0)))(h:EO w lo v l)(hbig:l.length<=1000)(hfd:l.find? (isK (x.a,x.b))=some ((x.a,x.b),x.unt)) :
  Calls Tryz.prog 51 (#[.agg #[.int .i64 x.a,.int .i64 x.b,.int .i64 x.slot,.int .i64 x.unt]] ++ #[.pointer (some ⟨F,0,none⟩),.pointer (some ⟨L,0,none⟩)]) w fun e w'=>e=.returned (.bool true)/\Below w.heap.size w w':=by
 obtain⟨ox,hox⟩:∃ o:Obj,o=.cells #[.int .i64 x.a,.int .i64 x.b,.int .i64 x.slot,.int .i64 x.unt] 61:=⟨_,rfl⟩
 have b0:Below w.heap.size w (w.alloc ox):=Ad _ _
 have HX0:Hid ((w.alloc ox).heap[w.heap.size]?=some ox):=heap_alloc_new _ _
 have f0:w.cell? ⟨F,0,none⟩=some (.func (.func 43) #[] #[.pointer (some ⟨L,0,none⟩)]):=by rw[cell_of_block hF];rfl
 have lf:=lt_of_block hF
 have HL:Hid ((w.alloc ox).heap[L]?=some (.cells #[v] 83 (0,0))):=(b0.block _ (lt_of_block hL)).trans hL
 have HE:Hid (EO (w.alloc ox) lo v l):=h.below b0
 have HFd:Hid (l.find? (isK (x.a,x.b))=some ((x.a,x.b),x.unt)):=hfd
 have Hb0:Hid (Below w.heap.size w (w.alloc ox)):=b0
 have hcf:∀ args W,(callFunc 43 args).run Tryz.prog W=.ok (.enter 43 args) W:=b7p
 clear hF hL h b0 hfd
 subst hox
 show Calls Tryz.prog 51 #[.agg #[.int .i64 x.a,.int .i64 x.b,.int .i64 x.slot,.int .i64 x.unt],.pointer (some ⟨F,0,none⟩),.pointer (some ⟨L,0,none⟩)] w _
 go_enter Tryz.func51,Tryz.ntmps51
 go_wp2_with fail
 generalize w.alloc _=V at *
 refine(a0o x.a x.b L lo v l V HL.out HE.out hbig).mono ?_
 rintro e w1 ⟨i,rfl,hi,hb1⟩
 have Hb1:Hid (Below w.heap.size w w1):=Hb0.out.trans (hb1.mono Hb0.out.size)
 have hX1:=(hb1.block _ (lt_of_block HX0.out)).trans HX0.out
 have hL1:=(hb1.block _ (lt_of_block HL.out)).trans HL.out
 have HE1:=HE.out.below hb1
 rcases Oz hi with ⟨-,hno⟩|⟨k,rfl,hkl,hf,-⟩
 ·rw[HFd.out] at hno;cases hno
 rw[HFd.out] at hf
 injection hf with hf
 obtain⟨g,cc,rfl,hcap,c0,c1,c2,-,-⟩:=HE1.at_ hkl
 rw[<- hf] at c2
 have x3:w1.cell? ⟨w.heap.size,3,none⟩=some (.int .i64 x.unt):=by rw[cell_of_block hX1];rfl
 have l0:w1.cell? ⟨L,0,none⟩=some (.slice (some ⟨g,0,none⟩) l.length cc):=by rw[cell_of_block hL1];rfl
 have hk2:(k:Int)<(l.length:Int):=by omega
 clear hb1 hX1 hL1 HX0 Hb0 HL HE HE1 HFd hi hf c0 c1 f0 lf
 go_wp2_with fail
 go_quiet (fail)
 go_wp2
 go_ret
 exact⟨rfl,Hb1.out.trans ((Md _ _).mono Hb1.out.size)⟩
def Ij(FL:List Fl)(k:Nat)(a:Int):Int:=(((FL.take k).map Fl.slot).count a:Int)
theorem a6e{FL:List Fl}{k:Nat}(h:k<FL.length):Ij FL (k+1)=fun y=>if y=FL[k].slot then Ij FL k FL[k].slot+1 else Ij FL k y:=by
 funext y
 unfold Ij
 rw[List.take_succ_eq_append_getElem h,List.map_append,List.count_append]
 by_cases e:y=FL[k].slot
 ·subst e
  simp
 ·rw[if_neg e]
  have:List.count y (List.map Fl.slot [FL[k]])=0:=List.count_eq_zero.2 (by simpa using e)
  rw[this]
  simp
theorem b4i(FL:List Fl)(k:Nat)(a:Int):0<=Ij FL k a/\Ij FL k a<=FL.length:=by
 unfold Ij
 have h1:=List.count_le_length (a:=a) (l:=(FL.take k).map Fl.slot)
 rw[List.length_map,List.length_take] at h1
 omega
theorem b5v{a b:Nat}(h:a<b):(a:Int)<(b:Int):=by omega
theorem b4j{FL:List Fl}(h:FL.length<=12)(k:Nat)(a:Int):wrap64 (Ij FL k a+1)=Ij FL k a+1/\(Lit.int .i64 (Ij FL k a+1)).wf=true:=by
 obtain⟨h0,h1⟩:=b4i FL k a
 exact⟨by unfold wrap64;omega,wf64 (by omega) (by omega)⟩
theorem a5g{M:Nat}{a:Int}(h:0<=a/\a<M)(hM:M<=12):(Lit.int .i64 a).wf=true:=wf64 (by omega) (by omega)
set_option maxHeartbeats 3200000 in
theorem b2p(W:Wd)(aS aH aF aL:Option Addr)(cS cH cF cL:Nat)(aT:Option Addr)(cT:Nat)(FL:List Fl)(af:Option Addr)(cf G n0 X:Nat)(f:Int->Int)(caps:Array Value)(w:World)(hX:w.heap[X]?=some (.cells #[.slice aS W.m.slots.length cS,.slice aH W.m.heads.length cH,.slice aF W.m.free.length cF,.slice aL W.m.locks.length cL,.int .i64 W.m.now,.slice aT W.ts.length cT] 28 (0,0)))(A:At w aS aH aF aL cS cH cF cL W.m)(hns:W.m.slots.length<=12)(hFL:Qb w af cf FL)(hfew:FL.length<=12)(hG:Jf w G n0 f)
  (his:∀ x V,x∈FL->Below w.heap.size w V->Calls Tryz.prog 51 (#[.agg #[.int .i64 x.a,.int .i64 x.b,.int .i64 x.slot,.int .i64 x.unt]] ++ caps) V fun e w'=>e=.returned (.bool true)/\Below V.heap.size V w') (hsl:∀ x∈FL,0<=x.slot/\x.slot<W.m.slots.length)
  (hcnt:∀ (a:Nat) (h:a<W.m.slots.length),W.m.slots[a].refs=Ij FL FL.length a+f a) (hrf:∀ (a:Nat) (h:a<W.m.slots.length),0<=W.m.slots[a].refs/\W.m.slots[a].refs<=1000) :
  Calls Tryz.prog 50 #[.pointer (some ⟨X,0,none⟩),.slice af FL.length cf,.map (some G),.func (.func 51) #[] caps] w fun e w'=>e=.returned (.bool true)/\Below w.heap.size w w':=by
 have HX:Hid (w.heap[X]?=some (.cells #[.slice aS W.m.slots.length cS,.slice aH W.m.heads.length cH,.slice aF W.m.free.length cF,.slice aL W.m.locks.length cL,.int .i64 W.m.now,.slice aT W.ts.length cT] 28 (0,0))):=hX
 have HA:Hid (At w aS aH aF aL cS cH cF cL W.m):=A
 have HF:Hid (Qb w af cf FL):=hFL
 have HG:Hid (Jf w G n0 f):=hG
 have HIs:Hid (∀ x V,x∈FL->Below w.heap.size w V->Calls Tryz.prog 51 (#[.agg #[.int .i64 x.a,.int .i64 x.b,.int .i64 x.slot,.int .i64 x.unt]] ++ caps) V fun e w'=>e=.returned (.bool true)/\Below V.heap.size V w'):=his
 have HSl:Hid (∀ x∈FL,0<=x.slot/\x.slot<W.m.slots.length):=hsl
 have HCn:Hid (∀ (a:Nat) (h:a<W.m.slots.length),W.m.slots[a].refs=Ij FL FL.length a+f a):=hcnt
 have HRf:Hid (∀ (a:Nat) (h:a<W.m.slots.length),0<=W.m.slots[a].refs/\W.m.slots[a].refs<=1000):=hrf
 have HM0:Hid (Jf (w.alloc (.map #[] 0)) w.heap.size 0 (Ij FL 0)):=by
  have h:=Jf.made w
  rwa [show (fun _=>0:Int->Int)=Ij FL 0 from by funext y;simp[Ij]] at h
 have Hb0:Hid (Below w.heap.size w (w.alloc (.map #[] 0))):=Ad _ _
 clear hX A hFL hG his hsl hcnt hrf
 have hmk:∀ w:World,(Instr.makeMap 84 none).run Tryz.prog w=.ok (.map (some w.heap.size)) (w.alloc (.map #[] 0)):=fun w=>by simp[Instr.makeMap]
 have hcl:∀ args W,(callFunc 51 args).run Tryz.prog W=.ok (.enter 51 args) W:=fnE51
 have hcf:=HF.out.le
 have hcs:=HA.out.s.le
 go_enter Tryz.func50,Tryz.ntmps50
 go_wp2_with fail
 have hN:w.heap.size<(w.alloc (.map #[] 0)).heap.size:=HM0.out.lt
 generalize hNe:w.heap.size=N at HM0 hN ⊢
 have HNe:Hid (w.heap.size=N):=hNe
 generalize w.alloc (.map #[] 0)=V0 at *
 clear hNe
 go_loopw [17] (fun i wr=>∃ k:Nat,k<=FL.length/\i=.int .i64 k/\Hid (Below w.heap.size w wr)/\Hid (Jf wr N k (Ij FL k))) (fun i _=>FL.length - (intOf i).toNat)
 case atStart=>exact⟨0,Nat.zero_le _,rfl,Hb0,HM0⟩
 case round =>
  clear HM0 Hb0
  obtain⟨k,hk,rfl,Hb,HM⟩:=hrel
  by_cases hlt:k<FL.length
  ·rcases (HF.out.below Hb.out).at_ with h0|⟨bf,of,rfl,hc⟩
   ·omega
   obtain⟨c0,c1,c2,c3⟩:=hc k hlt
   have HMe:Hid (FL[k] ∈ FL):=List.getElem_mem hlt
   have HSu:Hid (Ij FL (k+1)=fun y=>if y=FL[k].slot then Ij FL k FL[k].slot+1 else Ij FL k y):=a6e hlt
   generalize FL[k]=y at c0 c1 c2 c3 HMe HSu
   have hwf:=a5g (HSl.out y HMe.out) hns
   obtain⟨hcw,hwv⟩:=b4j hfew k y.slot
   have HWf:Hid ((Lit.int .i64 y.slot).wf=true):=hwf
   have HWv:Hid ((Lit.int .i64 (Ij FL k y.slot+1)).wf=true):=hwv
   clear hwf hwv
   obtain⟨oq,hoq⟩:∃ o:Obj,o=.cells #[.int .i64 y.a,.int .i64 y.b,.int .i64 y.slot,.int .i64 y.unt] 61:=⟨_,rfl⟩
   have Hb2:Hid (Below w.heap.size w (wr.alloc oq)):=Hb.out.alloc Hb.out.size _
   have HQ2:Hid ((wr.alloc oq).heap[wr.heap.size]?=some oq):=heap_alloc_new _ _
   have HM2:Hid (Jf (wr.alloc oq) N k (Ij FL k)):=HM.out.kept (Below.heap_alloc _ _ _ HM.out.lt)
   clear hc Hb HM
   subst hoq
   go_wp2_with fail
   clear c0 c1 c2 c3
   generalize World.alloc wr _=V2 at *
   generalize wr.heap.size=Q at *
   refine(HIs.out y V2 HMe.out Hb2.out).mono ?_
   rintro e w3 ⟨rfl,hb3⟩
   have Hb3:Hid (Below w.heap.size w w3):=Hb2.out.trans (hb3.mono Hb2.out.size)
   have HM3:Hid (Jf w3 N k (Ij FL k)):=HM2.out.kept (hb3.block _ HM2.out.lt)
   have hQ3:=(hb3.block _ (lt_of_block HQ2.out)).trans HQ2.out
   have q2:w3.cell? ⟨Q,2,none⟩=some (.int .i64 y.slot):=by rw[cell_of_block hQ3];rfl
   have hlk:=HM3.out.look HWf.out
   obtain⟨D,ho,hat⟩:=id HM3.out
   have HO:Hid (w3.ownsMap Tryz.prog 3 (plainElem Tryz.prog 3) N k D):=ho
   have HAt:Hid (∀ x:Int,D.atKey (.int .i64 x) (.lit (.int .i64 0))=.lit (.int .i64 (Ij FL k x))):=hat
   have hN3:=HM3.out.lt
   have hkx:k<maxLen:=by unfold maxLen;omega
   clear hb3 hQ3 HQ2 HM2 Hb2 ho hat HM3
   generalize Ij FL k y.slot=cv at *
   go_wp2_with (at_mapUpdate;(refine wpList_mapUpdate_own (H:=Unit) _ rfl _ _ _ 84 rfl 3 3 law3 Vg (plainElem Tryz.prog 3) N k D rfl HO.out hkx _ _ (.int .i64 y.slot) rfl rfl (keyOf_int_mk Tryz.underlying3 HWf.out) (.lit (.int .i64 (cv+1))) [] (by rw[hcw];exact plainElem_int Tryz.underlying3 HWv.out) ?_;intro w9 ho9 hg9))
   have Hb9:Hid (Below w.heap.size w w9):=Hb3.out.grown hg9 (by have:=Hb3.out.size;omega) (fun j h=>by have:=HNe.out;injection h with h;omega)
   have HM9:Hid (Jf w9 N (k+1) (Ij FL (k+1))):=by rw[HSu.out];exact Jf.put HO.out HAt.out ho9
   clear ho9 hg9
   go_roundw
   case rel=>exact⟨k+1,by omega,by go_num,Hb9,HM9⟩
   case measure=>simp[intOf];omega
  ·have hkE:k=FL.length:=by omega
   subst hkE
   have hX:=(Hb.out.block _ (lt_of_block HX.out)).trans HX.out
   obtain⟨x0,x1,x2,x3,x4,x5,xs⟩:=Ew hX
   clear hX
   go_wp2_with fail
   clear x0 x1 x2 x3 x4 x5 xs
   generalize wr=V1 at *
   go_loopw [37] (fun i wr=>∃ j:Nat,j<=W.m.slots.length/\i=.int .i64 j/\Hid (Below V1.heap.size V1 wr)) (fun i _=>W.m.slots.length - (intOf i).toNat)
   case atStart=>exact⟨0,Nat.zero_le _,rfl,Below.refl _ _⟩
   case round =>
    obtain⟨j,hj,rfl,Hbj⟩:=hrel
    have hbw:Below w.heap.size w wr:=Hb.out.trans (Hbj.out.mono Hb.out.size)
    by_cases hlj:j<W.m.slots.length
    ·rcases (HA.out.below hbw).s.at_ with h0|⟨bs,os,rfl,hc⟩
     ·omega
     obtain⟨s0,s1,s2,s3,s4,s5⟩:=hc j hlj
     have hcn:=HCn.out j hlj
     have hrf:=HRf.out j hlj
     generalize W.m.slots[j]=s at s0 s1 s2 s3 s4 s5 hcn hrf
     obtain⟨oq,hoq⟩:∃ o:Obj,o=.cells #[.int .i64 s.refs,.int .i64 s.a,.int .i64 s.b,.int .i64 s.unt,.bool s.inn,.int .i64 s.next] 64:=⟨_,rfl⟩
     obtain⟨V2,hV2⟩:∃ V2,V2=wr.alloc oq:=⟨_,rfl⟩
     have hb2:Below V1.heap.size V1 V2:=by rw[hV2];exact Hbj.out.alloc Hbj.out.size _
     have hQ2:V2.heap[wr.heap.size]?=some oq:=by rw[hV2];exact heap_alloc_new _ _
     have hwj:(Lit.int .i64 (j:Int)).wf=true:=a5g (M:=W.m.slots.length) ⟨Int.natCast_nonneg j,b5v hlj⟩ hns
     have k1:=(HM.out.kept (hb2.block _ HM.out.lt)).look hwj
     have hGw:=(Hb.out.trans (hb2.mono Hb.out.size)).block G HG.out.lt
     have k2:=(HG.out.kept hGw).look hwj
     have hsum:wrap64 (Ij FL FL.length (j:Int)+f (j:Int))=s.refs:=by rw[<- hcn];unfold wrap64;omega
     have hne:(s.refs != s.refs)=false:=by simp
     subst hoq
     have q0:V2.cell? ⟨wr.heap.size,0,none⟩=some (.int .i64 s.refs):=by rw[cell_of_block hQ2];rfl
     have HV2:Hid (V2=wr.alloc (.cells #[.int .i64 s.refs,.int .i64 s.a,.int .i64 s.b,.int .i64 s.unt,.bool s.inn,.int .i64 s.next] 64)):=hV2
     have Hb2:Hid (Below V1.heap.size V1 V2):=hb2
     clear hc hcn hrf hV2 hb2 hQ2 hGw hwj hbw Hbj
     generalize Ij FL FL.length (j:Int)=u1 at *
     generalize f (j:Int)=u2 at *
     go_wp2_with (rw[<- HV2.out];clear HV2)
     go_roundw
     case rel=>exact⟨j+1,by omega,by go_num,Hb2⟩
     case measure=>simp[intOf];omega
    ·have Hbe:Hid (Below w.heap.size w wr):=hbw
     clear hbw
     go_wp2
     go_ret
     exact⟨rfl,Hbe.out⟩
end
section
open Go.ChangeShapes Go.WideShapes Go.ChangeAt Go.RowKit Go.Joins Go.Deep Go.Maps
structure Sv(w wr:World)(base X5 X9 X11 X13 GM nb:Nat)(W:Wd)(cs:Array Value)(v:Value)(l:List En)(n:Nat)(f:Int->Int)(a b:Nat):Prop where
 bl:Below w.heap.size w wr
 h5:wr.heap[X5]?=some (.cells #[O J (nb:Int)] 3 (0,0))
 h9:wr.heap[X9]?=some (.cells cs 28 (0,0))
 hw:WIn a b wr (.agg cs) W
 hb:b<=wr.heap.size
 ha:¬ (a<=X9/\X9<b)/\¬ (a<=X11/\X11<b)/\¬ (a<=GM/\GM<b)
 h11:wr.heap[X11]?=some (.cells #[v] 83 (0,0))
 hE:EO wr base v l
 hd:∀ g,v.ownBlock=some g->¬ (a<=g/\g<b)
 h13:wr.heap[X13]?=some (.cells #[.func (.func 43) #[] #[.pointer (some ⟨X11,0,none⟩)]] 89 (0,0))
 hm:Jf wr GM n f
 lo:base<=wr.heap.size
 low:w.heap.size<=X5/\w.heap.size<=X9/\w.heap.size<=X11/\w.heap.size<=X13/\w.heap.size<=GM
 top:X5<base/\X9<base/\X11<base/\X13<base/\GM<base
 ne:X9≠X5/\X9≠X11/\X9≠X13/\X9≠GM/\X11≠X5/\X11≠X13/\X11≠GM/\GM≠X5/\GM≠X13
section
variable {w wr wr':World} {base X5 X9 X11 X13 GM nb:Nat} {W W':Wd} {cs cs':Array Value} {v v':Value} {l l':List En} {n n':Nat} {f f':Int->Int} {a b a' b':Nat}
theorem Sv.below(S:Sv w wr base X5 X9 X11 X13 GM nb W cs v l n f a b)(h:Below wr.heap.size wr wr'):Sv w wr' base X5 X9 X11 X13 GM nb W cs v l n f a b :=
 ⟨S.bl.trans (h.mono S.bl.size),(h.block _ (lt_of_block S.h5)).trans S.h5,(h.block _ (lt_of_block S.h9)).trans S.h9,S.hw.same fun k _ h2=>h.block k (by have:=S.hb;omega),Nat.le_trans S.hb h.size,S.ha,(h.block _ (lt_of_block S.h11)).trans S.h11,S.hE.below h,S.hd,(h.block _ (lt_of_block S.h13)).trans S.h13,S.hm.kept (h.block _ S.hm.lt),Nat.le_trans S.lo h.size,S.low,S.top,S.ne⟩
theorem Sv.setW(S:Sv w wr base X5 X9 X11 X13 GM nb W cs v l n f a b)(hl:cs'.size=cs.size)(hw:WIn a' b' wr (.agg cs') W')(hb:b'<=wr.heap.size)(ha:¬ (a'<=X9/\X9<b')/\¬ (a'<=X11/\X11<b')/\¬ (a'<=GM/\GM<b'))(hd:∀ g,v.ownBlock=some g->¬ (a'<=g/\g<b')):Sv w (wr.setCells X9 0 cs'.toList) base X5 X9 X11 X13 GM nb W' cs' v l n f a' b':=by
 have ho:∀ j,j≠X9->(wr.setCells X9 0 cs'.toList).heap[j]?=wr.heap[j]?:=fun j hj=>Ae hj _ _ _
 obtain⟨n1,n2,n3,n4,-⟩:=S.ne
 have hlow:=S.low.2.1
 have htop:=S.top.2.1
 refine⟨⟨(Au _ _ _).1.trans S.bl.os,(Au _ _ _).2.1.trans S.bl.tape,(Au _ _ _).2.2.trans S.bl.output,by rw[setCells_size];exact S.bl.size,fun k hk=>(ho k (by omega)).trans (S.bl.block k hk)⟩,(ho _ (Ne.symm n1)).trans S.h5,?_,hw.same fun k h1 h2=>ho k (fun e=>ha.1 (e ▸ ⟨h1,h2⟩)),by rw[setCells_size];exact hb,ha,(ho _ (Ne.symm n2)).trans S.h11,S.hE.same fun g hg=>ho g (by have:=(S.hE.own.lt g hg).1;omega),hd,(ho _ (Ne.symm n3)).trans S.h13,S.hm.kept (ho _ (Ne.symm n4)),by rw[setCells_size];exact S.lo,S.low,S.top,S.ne⟩
 have h:=D5 (vs:=cs'.toList) S.h9 (by simpa using hl)
 simpa using h
theorem Sv.Xl(S:Sv w wr base X5 X9 X11 X13 GM nb W cs v l n f a b){wr1:World}(hf:Fine wr wr1 (fun k=>v.ownBlock=some k))(hE:EO wr1 base v' l')(hgo:v'.ownBlock=v.ownBlock\/∃ g,v'.ownBlock=some g/\wr.heap.size<=g):Sv w (wr1.setCell ⟨X11,0,none⟩ v') base X5 X9 X11 X13 GM nb W cs v' l' n f a b:=by
 obtain⟨t1,t2,t3,t4,t5⟩:=S.top
 obtain⟨l1,l2,l3,l4,l5⟩:=S.low
 obtain⟨n1,n2,n3,n4,n5,n6,n7,-⟩:=S.ne
 have hvb:∀ g,v.ownBlock=some g->base<=g:=fun g hg=>(S.hE.own.lt g hg).1
 have k1:∀ j,j<wr.heap.size->v.ownBlock≠some j->j≠X11->(wr1.setCell ⟨X11,0,none⟩ v').heap[j]?=wr.heap[j]?:=fun j h1 h2 h3=>by
  rw[Below.heap_setCell _ _ _ _ (by dsimp only;exact h3)]
  exact hf.block j h1 h2
 have kb:∀ {X:Nat} {o:Obj},wr.heap[X]?=some o->X<base->X≠X11->(wr1.setCell ⟨X11,0,none⟩ v').heap[X]?=some o:=fun h1 h2 h3=>(k1 _ (lt_of_block h1) (fun e=>by have:=hvb _ e;omega) h3).trans h1
 have h11:wr1.heap[X11]?=some (.cells #[v] 83 (0,0)):=(hf.block _ (lt_of_block S.h11) (fun e=>by have:=hvb _ e;omega)).trans S.h11
 have hEb:∀ g,v'.ownBlock=some g->base<=g:=fun g hg=>(hE.own.lt g hg).1
 refine⟨⟨hf.os.trans S.bl.os,hf.tape.trans S.bl.tape,hf.output.trans S.bl.output,by rw[World.size_setCell];exact Nat.le_trans S.bl.size hf.size,fun k hk=>(k1 k (Nat.lt_of_lt_of_le hk S.bl.size) (fun e=>by have:=hvb _ e;omega) (by omega)).trans (S.bl.block k hk)⟩,kb S.h5 t1 (Ne.symm n5),kb S.h9 t2 n2,S.hw.same fun k h1 h2=>k1 k (by have:=S.hb;omega) (fun e=>S.hd k e ⟨h1,h2⟩) (fun e=>S.ha.2.1 (e ▸ ⟨h1,h2⟩)),by rw[World.size_setCell];exact Nat.le_trans S.hb hf.size,S.ha,?_,hE.same fun g hg=>Below.heap_setCell _ _ _ _ (by dsimp only;have:=hEb g hg;omega),?_,kb S.h13 t4 (Ne.symm n6),S.hm.kept (k1 _ S.hm.lt (fun e=>by have:=hvb _ e;omega) (Ne.symm n7)),by rw[World.size_setCell];exact Nat.le_trans S.lo hf.size,S.low,S.top,S.ne⟩
 ·have:=block_setCell (i:=0) h11 v'
  rw[this];rfl
 ·intro g hg hx
  rcases hgo with e1|⟨g2,e1,e2⟩
  ·exact S.hd g (e1 ▸ hg) hx
  ·rw[hg] at e1
   injection e1 with e1
   have:=S.hb
   omega
theorem Sv.setM(S:Sv w wr base X5 X9 X11 X13 GM nb W cs v l n f a b){wr1:World}(hg:wr.grownBy wr1 (some GM))(hm:Jf wr1 GM n' f'):Sv w wr1 base X5 X9 X11 X13 GM nb W cs v l n' f' a b:=by
 obtain⟨t1,t2,t3,t4,t5⟩:=S.top
 obtain⟨l1,l2,l3,l4,l5⟩:=S.low
 obtain⟨-,-,-,n4,-,-,n7,n8,n9⟩:=S.ne
 have k1:∀ j,j<wr.heap.size->j≠GM->wr1.heap[j]?=wr.heap[j]?:=fun j h1 h2=>hg.block j h1 (fun e=>h2 (Option.some.inj e))
 exact⟨⟨hg.os.trans S.bl.os,hg.tape.trans S.bl.tape,hg.output.trans S.bl.output,Nat.le_trans S.bl.size hg.size,fun k hk=>(k1 k (Nat.lt_of_lt_of_le hk S.bl.size) (by omega)).trans (S.bl.block k hk)⟩,(k1 _ (lt_of_block S.h5) (Ne.symm n8)).trans S.h5,(k1 _ (lt_of_block S.h9) n4).trans S.h9,S.hw.same fun k h1 h2=>k1 k (by have:=S.hb;omega) (fun e=>S.ha.2.2 (e ▸ ⟨h1,h2⟩)),Nat.le_trans S.hb hg.size,S.ha,(k1 _ (lt_of_block S.h11) n7).trans S.h11,S.hE.same fun g hg'=>k1 g (S.hE.own.lt g hg').2 (by have:=(S.hE.own.lt g hg').1;omega),S.hd,(k1 _ (lt_of_block S.h13) (Ne.symm n9)).trans S.h13,hm,Nat.le_trans S.lo hg.size,S.low,S.top,S.ne⟩
end
def b7k(w:Wd)(t:Tk)(c:Cl)(l l':List En)(g:Fr)(h':List Int):Prop :=
 (c.kind=1/\l'=l/\h'=(if g.e=0 then t.held ++ [g.slot] else t.held)/\(g.e=0 ↔ ∃ e,l.find? (isK (c.a,c.b))=some e/\w.m.now<e.2)) \/
 (c.kind=2/\h'=t.held/\((w.m.free.length=0/\g.e=7/\l'=l)\/(w.m.free.length≠0/\(l.find? (isK (c.a,c.b))).isSome=true/\g.e=6/\l'=l) \/
  (w.m.free.length≠0/\l.find? (isK (c.a,c.b))=none/\g.e=0/\l'=l ++ [((c.a,c.b),if 2000000<w.m.now+c.time then 2000000 else w.m.now+c.time)]))) \/
 (c.kind=3/\h'=t.held/\l'=l.eraseP (isK (c.a,c.b))/\(g.e=0 ↔ (l.find? (isK (c.a,c.b))).isSome=true)) \/
 (c.kind=4/\h'=t.held/\l'=l.filter (Nq w.m.heads.length c.bk w.m.now)/\g.n=(l.length:Int) - l'.length) \/
 (c.kind=5/\h'=t.held/\l'=l) \/
 (c.kind=6/\c.slot∈t.held/\h'=t.held.erase c.slot/\l'=l)
theorem b1b{nS nH:Nat}{c:Cl}(h:Df nS nH c=0):c.kind=1\/c.kind=2\/c.kind=3\/c.kind=4\/c.kind=5\/c.kind=6:=by
 unfold Df at h
 by_cases h1:c.kind=1\/c.kind=3
 ·omega
 rw[if_neg h1] at h
 by_cases h2:c.kind=2
 ·omega
 rw[if_neg h2] at h
 by_cases h4:c.kind=4\/c.kind=5
 ·omega
 rw[if_neg h4] at h
 by_cases h6:c.kind=6
 ·omega
 rw[if_neg h6] at h
 cases h
theorem b2o{w:Wd}{t:Tk}{l:List En}{c:Cl}(I:Bi w)(hw:w.ts=[t])(hE:doE w ⟨0,false,false,c⟩=0)(S:Sol l w.m):∃ X g h' l',Over w c 79 l' X g h'/\b7k w t c l l' g h':=by
 obtain⟨-,hc,-,-⟩:=Gy hw hE
 rcases b1b hc with h|h|h|h|h|h
 ·obtain⟨X,g,O,e⟩:=a8q I hw hE S (Nat.le_refl _) h
  exact⟨X,g,_,_,O,.inl ⟨h,rfl,rfl,e⟩⟩
 ·obtain⟨X,g,⟨h1,h2,O⟩|⟨h1,h2,h3,O⟩|⟨h1,h2,h3,O⟩⟩:=b2n I hw hE S (Nat.le_refl _) h
  ·exact⟨X,g,_,_,O,.inr (.inl ⟨h,rfl,.inl ⟨h1,h2,rfl⟩⟩)⟩
  ·exact⟨X,g,_,_,O,.inr (.inl ⟨h,rfl,.inr (.inl ⟨h1,h2,h3,rfl⟩)⟩)⟩
  ·exact⟨X,g,_,_,O,.inr (.inl ⟨h,rfl,.inr (.inr ⟨h1,h2,h3,rfl⟩)⟩)⟩
 ·obtain⟨X,g,O,e⟩:=a8o I hw hE S (Nat.le_refl _) h
  exact⟨X,g,_,_,O,.inr (.inr (.inl ⟨h,rfl,rfl,e⟩))⟩
 ·obtain⟨X,g,O,e⟩:=a3y I hw hE S (Nat.le_refl _) h
  exact⟨X,g,_,_,O,.inr (.inr (.inr (.inl ⟨h,rfl,rfl,e⟩)))⟩
 ·obtain⟨X,g,O⟩:=a8p I hw hE S (Nat.le_refl _) h
  exact⟨X,g,_,_,O,.inr (.inr (.inr (.inr (.inl ⟨h,rfl,rfl⟩))))⟩
 ·obtain⟨hm,X,g,O⟩:=a3x I hw hE S (Nat.le_refl _) h
  exact⟨X,g,_,_,O,.inr (.inr (.inr (.inr (.inr ⟨h,hm,rfl,rfl⟩))))⟩
theorem a1o{W:Wd}{q r:Nat}(h:q<=r)(hi:Idle (rounds q W)):rounds r W=rounds q W:=by
 obtain⟨d,rfl⟩:=Nat.exists_eq_add_of_le h
 rw[Og,Pe hi]
theorem Xq{nh ns:Nat}{s:Sl}(h:Em nh ns s=0):(0<=s.refs/\s.refs<=1000)/\Ee s.a s.b=true:=by
 unfold Em at h
 split at h
 ·next h1 =>
  rw[Bool.and_eq_true,Bool.and_eq_true,Ai] at h1
  exact⟨h1.1.1,h1.2⟩
 ·cases h
theorem Vb{l:List En}{M:Mm}(hM:OkC M)(S:Sol l M):l.length<=12:=by
 rw[Vd S]
 exact Ox hM
theorem Z8{W:Wd}{t:Tk}(h:W.ts=[t])(hb:t.busy=false):W=⟨W.m,[⟨false,t.f,t.held⟩]⟩:=by
 obtain⟨m,ts⟩:=W
 obtain⟨b,f,hh⟩:=t
 cases h
 cases hb
 rfl
theorem X4{W:Wd}{t:Tk}(I:Bi W)(h:W.ts=[t]){a:Int}(ha:a∈t.held):0<=a/\a<=12:=by
 obtain⟨j,rfl,hj⟩:=(Fv _ _).1 ((I.held t (by rw[h];exact List.mem_singleton.2 rfl)).2 a ha)
 have:=I.okc.ok.ns
 omega
theorem X3{W:Wd}{t:Tk}(I:Bi W)(h:W.ts=[t])(a:Int):0<=(t.held.count a:Int)/\(t.held.count a:Int)<=100:=by
 have h1:=(I.held t (by rw[h];exact List.mem_singleton.2 rfl)).1
 have h2:=List.count_le_length (a:=a) (l:=t.held)
 omega
theorem a2o{f:Int->Int}{l:List Int}(h:∀ y:Int,f y=(l.count y:Int)){a:Int}(ha:a∈l)(y:Int):(if y=a then f a - 1 else f y)=((l.erase a).count y:Int):=by
 have hp:=List.count_pos_iff.2 ha
 by_cases e:y=a
 ·subst e
  rw[if_pos rfl,h,List.count_erase_self]
  omega
 ·rw[if_neg e,h,List.count_erase_of_ne (by exact e)]
theorem a2p{f:Int->Int}{l:List Int}(h:∀ y:Int,f y=(l.count y:Int))(a y:Int):(if y=a then f a+1 else f y)=((l ++ [a]).count y:Int):=by
 rw[List.count_append]
 by_cases e:y=a
 ·subst e
  rw[if_pos rfl,h]
  simp
 ·rw[if_neg e,h]
  have:List.count y [a]=0:=List.count_eq_zero.2 (by simpa using e)
  rw[this]
  simp
theorem a9u{nS nH:Nat}{c:Cl}(h:Df nS nH c=0)(hk:c.kind=2):0<=c.time/\c.time<=1000000:=by
 unfold Df at h
 rw[if_neg (by omega),if_pos hk] at h
 split at h
 ·next h1 =>
  rw[Bool.and_eq_true,Ai] at h1
  omega
 ·cases h
theorem a9e(W:World)(v0 v1 v2:Value)(t:TypeId):∀ (j:Nat) u,[v0,v1,v2][j]?=some u->(W.alloc (.cells #[v0,v1,v2] t)).cell? ((⟨W.heap.size,0,none⟩:Addr).add j)=some u:=by
 intro j u hu
 match j,hu with
 | 0,hu=>cases hu;exact(cell_of_block (heap_alloc_new W _) _).trans rfl
 | 1,hu=>cases hu;exact(cell_of_block (heap_alloc_new W _) _).trans rfl
 | 2,hu=>cases hu;exact(cell_of_block (heap_alloc_new W _) _).trans rfl
 | j+3,hu=>simp at hu
theorem Xt{X:Mm}{g:Fr}{h:List Int}{l:List En}(I:Bi ⟨X,[⟨false,g,h⟩]⟩)(S:Sol l X):l.length=(Bf X).length/\(∀ x∈Bf X,l.find? (isK (x.a,x.b))=some ((x.a,x.b),x.unt))/\(∀ x∈Bf X,0<=x.slot/\x.slot<X.slots.length) /\
  (∀ (a:Nat) (hl:a<X.slots.length),X.slots[a].refs=Ij (Bf X) (Bf X).length a+(h.count (a:Int):Int))/\(∀ (a:Nat) (hl:a<X.slots.length),0<=X.slots[a].refs/\X.slots[a].refs<=1000)/\(∀ x∈l,Ee x.1.1 x.1.2=true):=by
 have hM:=I.okc
 refine⟨Vd S,fun x hx=>b2l hM S hx,fun x hx=>?_,fun a hl=>?_,fun a hl=>?_,fun x hx=>?_⟩
 ·obtain⟨y,hy,rfl⟩:=List.mem_map.1 hx
  exact hM.Ha y hy
 ·have h1:=Ui I (a:=(a:Int)) ((Fv _ _).2 ⟨a,rfl,hl⟩)
  have h2:=a8m hM (a:Int)
  unfold Ij
  rw[List.take_length,h2,<- h1]
  unfold Ap
  simp[List.getD_eq_getElem?_getD,hl]
 ·have h1:=Xq (hM.ok.slot _ (List.getElem_mem hl))
  exact h1.1
 ·obtain⟨a,ha,rfl⟩:=(Zr S x).1 hx
  obtain⟨h1,h2⟩:=hM.Ha a ha
  obtain⟨k,rfl⟩:∃ k:Nat,a=k:=⟨a.toNat,by omega⟩
  have h2':(k:Int)<(X.slots.length:Int):=h2
  have hk:k<X.slots.length:=by omega
  have h3:=Xq (hM.ok.slot _ (List.getElem_mem hk))
  show Ee (A7 X (k:Int)).a (A7 X (k:Int)).b=true
  rw[Jc hk]
  exact h3.2
end
end Go.Proofs.YthhgoenomehobaaGreat.mm
