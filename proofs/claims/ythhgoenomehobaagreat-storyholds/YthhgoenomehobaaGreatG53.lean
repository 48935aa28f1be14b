/- Parts. -/
import Derived.Test.YthhgoenomehobaaGreatG52
import Derived.Test.YthhgoenomehobaaGreatG49
namespace Go.Proofs.YthhgoenomehobaaGreat.mm
set_option maxRecDepth 100000
set_option linter.unusedVariables false
open Go.Value renaming int → O, slice → Y
open Go.IntKind renaming i64 → J
section
open Go.ChangeShapes Go.WideShapes Go.ChangeAt Go.RowKit Go.Joins Go.Deep Go.Maps
theorem new_idle(a b n:Nat):∀ t∈(newW a b n).ts,t.busy=false:=fun t ht=>by
 unfold newW at ht
 rw[List.eq_of_mem_replicate ht]
 rfl
theorem a1f:∀ (l:List Pk) (n:Nat) (s:Rs),(runR n s l).past.length<=s.past.length+l.length
 | [],_,_=>Nat.le_refl _
 | x :: l,n,s=>by
  have h:=a1f l (n+1) (Gy n s x)
  have h2:(Gy n s x).past.length<=s.past.length+1:=by rw[a1l];exact Wu _ _ _ _ _ _
  show (runR (n+1) (Gy n s x) l).past.length<=_
  rw[List.length_cons]
  omega
theorem a0g:∀ (pl:List (Pst × Option Addr × Nat)) (i j:Nat) (h:i<pl.length),j<13->(encP pl)[i*13+j]?=(pl[i].1.enc pl[i].2.1 pl[i].2.2)[j]?
 | [],i,j,h,_=>by simp at h
 | q :: pl,0,j,h,hj=>by
  rw[show encP (q :: pl)=q.1.enc q.2.1 q.2.2++encP pl from by simp[encP],List.getElem?_append_left (by rw[Nat.zero_mul,Nat.zero_add];exact hj)]
  simp
 | q :: pl,i+1,j,h,hj=>by
  have hl:(q.1.enc q.2.1 q.2.2).length=13:=rfl
  rw[show encP (q :: pl)=q.1.enc q.2.1 q.2.2++encP pl from by simp[encP],List.getElem?_append_right (by rw[hl];omega),hl,show (i+1)*13+j - 13=i*13+j by omega]
  exact a0g pl i j (by simpa using h) hj
structure Yn(w:World)(ao:Option Addr)(n:Nat)(S:List Pst):Prop where
 at_:n=0\/∃ b o,ao=some ⟨b,o,none⟩/\∀ i,i<n->∃ (q:Pst) (aK:Option Addr) (cK:Nat),q∈S/\w.rangeAt b (o+i*13) (q.enc aK cK)
theorem Yn.below{w w':World}{ao:Option Addr}{n:Nat}{S:List Pst}(h:Yn w ao n S)(hb:Below w.heap.size w w'):Yn w' ao n S:=by
 rcases h.at_ with h|⟨b,o,e,hc⟩
 ·exact⟨.inl h⟩
 ·refine⟨.inr ⟨b,o,e,fun i hi=>?_⟩⟩
  obtain⟨q,aK,cK,hq,hr⟩:=hc i hi
  exact⟨q,aK,cK,hq,Et hr hb (cell_lt (hr 0 _ rfl))⟩
set_option maxHeartbeats 4000000 in
theorem a0s(many buckets tasks:Int)(l:List Pk)(aP:Option Addr)(cP:Nat)(w:World)(r:PRow w aP cP l)(m:Nat)(hm:m<=l.length)(hm':(l.length:Int)<=300/\m=l.length\/(300:Int)<(l.length:Int)/\m=300) :
  Calls Tryz.prog 13 #[O J many,O J buckets,O J tasks,Y aP l.length cP] w fun e w'=>e=.returned (.bool true)/\Below w.heap.size w w':=by
 have m1:=r.max
 have m2:=r.le
 have HR:Hid (PRow w aP cP (l.take m)):=r.take hm
 have HN:Hid (aP=none->cP=0):=r.nil
 have hm3:m<=300:=by omega
 have hmc:m<=cP:=by omega
 have HPl:Hid (∀ W:World,Calls Tryz.prog 18 #[] W fun e w'=>e=.returned (.bool true)/\Below W.heap.size W w'):=Vh
 have HNw:=X4 many buckets tasks w
 clear r
 go_enter Tryz.func13,Tryz.ntmps13
 go_wp2_with fail
 refine HNw.mono ?_
 rintro e w1 ⟨v,rfl,hv,hb1⟩
 obtain⟨E,hE⟩:∃ E,E=Py many buckets tasks:=⟨_,rfl⟩
 rw[<- hE] at hv ⊢
 clear HNw
 by_cases h0:E=0
 rotate_left
 ·have h':(E != 0)=true:=by simpa using h0
  obtain⟨aS,aH,aF,aL,cS,cH,cF,cL,aT,cT,lt,rfl,-⟩:=hv
  have Hb2:Hid (∀ o:Obj,Below w.heap.size w (w1.alloc o)):=fun o=>hb1.alloc hb1.size o
  clear hE hm' hb1
  go_wp2_with fail
  refine(HPl.out _).mono ?_
  rintro e w3 ⟨rfl,hb3⟩
  have Hb3:Hid (Below w.heap.size w w3):=(Hb2.out _).trans (hb3.mono (Hb2.out _).size)
  clear hb3 Hb2
  go_wp2_with fail
  refine(HPl.out _).mono ?_
  rintro e w4 ⟨rfl,hb4⟩
  have Hb4:Hid (Below w.heap.size w w4):=Hb3.out.trans (hb4.mono Hb3.out.size)
  clear hb4 Hb3
  go_wp2
  go_ret
  exact⟨rfl,Hb4.out⟩
 rw[if_pos h0] at hv
 obtain⟨h12,h14,h15⟩:=Y1 (hE.symm.trans h0)
 have HI:Hid (WInv (newW many.toNat buckets.toNat tasks.toNat)):=U2 h12 h14 h15
 have HIdl:Hid (∀ t∈(newW many.toNat buckets.toNat tasks.toNat).ts,t.busy=false):=new_idle _ _ _
 clear hE h12 h14 h15
 subst h0
 generalize newW many.toNat buckets.toNat tasks.toNat=W0 at *
 obtain⟨aS,aH,aF,aL,cS,cH,cF,cL,aT,cT,lt,rfl,-⟩:=id hv
 obtain⟨oX,hoX⟩:∃ o:Obj,o=.cells #[Y aS W0.m.slots.length cS,Y aH W0.m.heads.length cH,Y aF W0.m.free.length cF,Y aL W0.m.locks.length cL,O J W0.m.now,Y aT W0.ts.length cT] 28:=⟨_,rfl⟩
 have b2:Below w1.heap.size w1 (w1.alloc oX):=Aa _ _
 have HX2:Hid ((w1.alloc oX).heap[w1.heap.size]?=some oX):=heap_alloc_new _ _
 have HV2:Hid (WAns 0 (w1.alloc oX) (.agg #[Y aS W0.m.slots.length cS,Y aH W0.m.heads.length cH,Y aF W0.m.free.length cF,Y aL W0.m.locks.length cL,O J W0.m.now,Y aT W0.ts.length cT]) W0):=(hv.below b2).mono (Nat.zero_le _)
 have Hb2:Hid (Below w.heap.size w (w1.alloc oX)):=hb1.alloc hb1.size _
 have hzX:w.heap.size<=w1.heap.size:=hb1.size
 clear hv hb1 b2
 go_wp2_with fail
 rw[<- hoX]
 generalize w1.alloc oX=W2 at *
 subst hoX
 refine(HPl.out W2).mono ?_
 rintro e w3 ⟨rfl,hb3⟩
 have HX3:Hid (w3.heap[w1.heap.size]?=some (.cells #[Y aS W0.m.slots.length cS,Y aH W0.m.heads.length cH,Y aF W0.m.free.length cF,Y aL W0.m.locks.length cL,O J W0.m.now,Y aT W0.ts.length cT] 28 (0,0))):=(hb3.block _ (lt_of_block HX2.out)).trans HX2.out
 have HV3:Hid (WAns 0 w3 (.agg #[Y aS W0.m.slots.length cS,Y aH W0.m.heads.length cH,Y aF W0.m.free.length cF,Y aL W0.m.locks.length cL,O J W0.m.now,Y aT W0.ts.length cT]) W0):=HV2.out.below hb3
 have Hb3:Hid (Below w.heap.size w w3):=Hb2.out.trans (hb3.mono Hb2.out.size)
 clear HX2 HV2 Hb2 hb3
 obtain⟨y0,y1,y2,y3,y4,y5,ys⟩:=D5 HX3.out
 obtain⟨sE,hsE⟩:∃ sE:Rs,sE=runR 0 (rs0 W0) (l.take m):=⟨_,rfl⟩
 have HPs:Hid (∀ q∈sE.past,q.fro<=q.to/\q.to<m/\∃ j,q.fro<=j/\j<=q.to/\accM q (runW W0 ((l.take m).take j)).m (runW W0 ((l.take m).take (j+1))).m=true):=by
  have h:=(Zi HI.out HIdl.out (l.take m)).2
  show ∀ q∈sE.past,_
  rw[hsE]
  intro q hq
  obtain⟨h1,h2,h3⟩:=h q hq
  exact⟨h1,by rw[List.length_take] at h2;omega,h3⟩
 have HWt:Hid (∀ (V:World) (q:Pst) (aK:Option Addr) (cK:Nat),Below w3.heap.size w3 V->q∈sE.past->Calls Tryz.prog 41 #[.agg #[Y aS W0.m.slots.length cS,Y aH W0.m.heads.length cH,Y aF W0.m.free.length cF,Y aL W0.m.locks.length cL,O J W0.m.now,Y aT W0.ts.length cT],Y aP m cP,.agg #[O J q.task,O J q.c.kind,O J q.c.a,O J q.c.b,O J q.c.time,O J q.c.bk,O J q.c.slot,O J q.fro,O J q.to,O J q.e,O J q.slot,O J q.n,Y aK q.keys.length cK]] V fun e w'=>∃ R:Int,e=.returned (.tuple #[O J R,O J 0])/\(q.fro:Int)<=R/\R<=q.to/\Below V.heap.size V w'):=fun V q aK cK hb hq=>by
  obtain⟨h1,h2,j,h3,h4,h5⟩:=HPs.out q hq
  have hlm:(l.take m).length=m:=by rw[List.length_take];omega
  have ht:∀ i,i<=q.to+1->((l.take m).take (q.to+1)).take i=(l.take m).take i:=fun i hi=>by rw[List.take_take];congr 1;omega
  have hn:=a1t W0 ((l.take m).take (q.to+1)) q h3 (by rw[ht j (by omega),ht (j+1) (by omega)];exact h5) (q.to+1) (by omega)
  have h:=Zr HI.out (l.take m) aP cP q aK cK V (HV3.out.below hb) ((HR.out.below Hb3.out).below hb) (by omega) h1 (by omega) _ rfl hn
  rw[hlm] at h
  refine h.mono ?_
  rintro e w' ⟨he,hb'⟩
  refine⟨_,he,?_,?_,hb'⟩
  ·rcases a8b W0 ((l.take m).take (q.to+1)) q (q.to+1) with h6|h6
   ·exact(hn h6).elim
   ·exact h6.1
  ·rcases a8b W0 ((l.take m).take (q.to+1)) q (q.to+1) with h6|h6
   ·exact(hn h6).elim
   ·omega
 have HRn:Hid (∀ V:World,Below w3.heap.size w3 V->Calls Tryz.prog 35 #[.agg #[Y aS W0.m.slots.length cS,Y aH W0.m.heads.length cH,Y aF W0.m.free.length cF,Y aL W0.m.locks.length cL,O J W0.m.now,Y aT W0.ts.length cT],Y aP m cP] V (RunP V sE)):=fun V hb=>by
  have h:=run_any HI.out (.agg #[Y aS W0.m.slots.length cS,Y aH W0.m.heads.length cH,Y aF W0.m.free.length cF,Y aL W0.m.locks.length cL,O J W0.m.now,Y aT W0.ts.length cT]) aP cP (l.take m) V (HV3.out.below hb) ((HR.out.below Hb3.out).below hb) (by rw[List.length_take];omega)
  rw[show (l.take m).length=m by rw[List.length_take];omega] at h
  rw[hsE]
  exact h
 have Hfew:Hid (sE.past.length<=300):=by
  have h:=a1f (l.take m) 0 (rs0 W0)
  show _<=_
  rw[hsE]
  rw[List.length_take] at h
  exact Nat.le_trans h (by show 0+_<=_;omega)
 clear hsE HIdl HI HV3 HR HPs
 rcases hm' with ⟨hl,hml⟩|⟨hl,hml⟩
 all_goals subst hml
 all_goals go_wp2_with fail
 all_goals
  refine(HRn.out w3 (Below.refl _ _)).mono ?_
  rintro e w5 ⟨v5,v15,v45,pl,rfl,hv5,ho1,ho4,-,hpl,hb5⟩
  obtain⟨aS5,aH5,aF5,aL5,cS5,cH5,cF5,cL5,aT5,cT5,lt5,rfl,-⟩:=id hv5
  obtain⟨a1,k1,rfl⟩:=Dl ho1
  obtain⟨a4,k4,rfl⟩:=Dl ho4
  have HO4:Hid (w5.ownsRow w3.heap.size 78 13 (Y a4 pl.length k4) pl.length (encP pl)):=ho4
  have HPm:Hid (pl.map (·.1)=sE.past):=hpl
  have hfew:pl.length<=300:=by
   have h:=Hfew.out
   rw[<- hpl,List.length_map] at h
   exact h
  have Hb5:Hid (Below w3.heap.size w3 w5):=hb5
  have hk4:pl.length<=k4:=by
   obtain⟨-,h⟩:=ho4
   rcases h with ⟨-,h⟩|⟨g,c',cur,hv,-,-,hn,-⟩
   ·omega
   ·injection hv with _ _ e;omega
  have HCs:Hid (∀ (d n:Nat),d+n=pl.length->∀ V,Below w5.heap.size w5 V->Yn V (a4.map fun x=>⟨x.block,x.off+d*13,none⟩) n sE.past):=fun d n hdn V hb=>by
   by_cases h0:pl.length=0
   ·exact⟨.inl (by omega)⟩
   obtain⟨g,rfl,-,-,hgl,hc⟩:=Y3 HO4.out (by omega)
   refine⟨.inr ⟨g,0+d*13,rfl,fun i hi=>⟨(pl[d+i]'(by omega)).1,(pl[d+i]'(by omega)).2.1,(pl[d+i]'(by omega)).2.2,?_,?_⟩⟩⟩
   ·rw[<- HPm.out];exact List.mem_map_of_mem (List.getElem_mem _)
   ·intro j v hv
    have hj:j<13:=(List.getElem?_eq_some_iff.1 hv).1
    have e:0+d*13+i*13+j=(d+i)*13+j:=by omega
    rw[e,World.cell?_of_block (hb.block g hgl),hc _ (by omega),a0g pl (d+i) j (by omega) hj]
    exact hv
  obtain⟨nP,hnP⟩:∃ n,n=pl.length:=⟨_,rfl⟩
  rw[<- hnP] at hfew hk4 HCs ⊢
  have HNil:Hid (a4=none->k4=0/\nP=0):=by
   intro h0
   obtain⟨-,h⟩:=ho4
   rcases h with ⟨hv,h⟩|⟨g,c',cur,hv,-⟩
   ·injection hv with _ _ e;exact⟨e,by omega⟩
   ·injection hv with e;rw[h0] at e;cases e
  have HSome:Hid (∀ ad,a4=some ad->ad.off=0/\ad=⟨ad.block,ad.off,none⟩):=by
   intro ad h0
   obtain⟨-,h⟩:=ho4
   rcases h with ⟨hv,h⟩|⟨g,c',cur,hv,-⟩
   ·injection hv with e;rw[h0] at e;cases e
   ·injection hv with e;rw[h0] at e;cases e;exact⟨rfl,rfl⟩
  clear hv5 ho1 ho4 hpl hb5 HRn y0 y1 y2 y3 y4 y5 ys hnP HO4 HPm Hfew
  obtain⟨o6,ho6⟩:∃ o:Obj,o=.cells #[Y aS5 sE.w.m.slots.length cS5,Y aH5 sE.w.m.heads.length cH5,Y aF5 sE.w.m.free.length cF5,Y aL5 sE.w.m.locks.length cL5,O J sE.w.m.now,Y aT5 sE.w.ts.length cT5] 28:=⟨_,rfl⟩
  have Hb6:Hid (Below w3.heap.size w3 (w5.alloc o6)):=Hb5.out.alloc Hb5.out.size o6
  have HC6:Hid (∀ (d n:Nat),d+n=nP->Yn (w5.alloc o6) (a4.map fun x=>⟨x.block,x.off+d*13,none⟩) n sE.past):=fun d n h=>HCs.out d n h _ (Aa _ _)
  clear HCs Hb5
  by_cases h12:nP<=12
  ·have e1:wrap64 ((nP:Int) - 12)=(nP:Int) - 12:=by unfold wrap64;omega
   have e2:IntKind.i64.wrap ((nP:Int) - 12)=(nP:Int) - 12:=by rw[IntKind.wrap_i64];omega
   have e3:(nP:Int) - 12<=0:=by omega
   cases a4 with
   | none =>
    obtain⟨rfl,rfl⟩:=HNil.out rfl
    go_wp2_with fail
    rw[<- ho6]
    generalize w5.alloc o6=V6 at *
    clear e1 e2 e3 ho6 h12
    go_loopw [54] (fun i wr=>i=O J 0/\Hid (Below V6.heap.size V6 wr)) (fun i _=>0)
    case atStart=>exact⟨rfl,Below.refl _ _⟩
    case round =>
     obtain⟨rfl,Hb⟩:=hrel
     go_wp2
     go_ret
     exact⟨rfl,Hb3.out.trans ((Hb6.out.trans (Hb.out.mono Hb6.out.size)).mono Hb3.out.size)⟩
   | some ad =>
    obtain⟨g,off,ow⟩:=ad
    obtain⟨h1,h2⟩:=HSome.out _ rfl
    cases h2
    cases h1
    have HPa:Hid (Yn (w5.alloc o6) (some ⟨g,0+0*13,none⟩) nP sE.past):=HC6.out 0 nP (by omega)
    clear HC6 HNil HSome
    go_wp2_with fail
    rw[<- ho6]
    generalize w5.alloc o6=V6 at *
    clear e1 e2 e3 ho6 h12
    go_loopw [54] (fun i wr=>∃ k:Nat,k<=nP/\i=O J k/\Hid (Below V6.heap.size V6 wr)) (fun i _=>nP - (intOf i).toNat)
    case atStart=>exact⟨0,Nat.zero_le _,rfl,Below.refl _ _⟩
    case round =>
     obtain⟨k,hk,rfl,Hb⟩:=hrel
     by_cases hlt:k<nP
     ·have hlt':(k:Int)<(nP:Int):=by omega
      rcases (HPa.out.below Hb.out).at_ with h0|⟨b,o,e,hc⟩
      ·omega
      cases e
      obtain⟨q,aK,cK,hq,hr⟩:=hc k hlt
      have lq:Hid (wr.rangeAt g (k*13) (q.enc aK cK)):=by
       have h:=hr
       rw[show 0+0*13+k*13=k*13 by omega] at h
       exact h
      have Hq:Hid (q∈sE.past):=hq
      obtain⟨op,hop⟩:∃ o:Obj,o=.cells #[O J q.task,O J q.c.kind,O J q.c.a,O J q.c.b,O J q.c.time,O J q.c.bk,O J q.c.slot,O J q.fro,O J q.to,O J q.e,O J q.slot,O J q.n,Y aK q.keys.length cK] 78:=⟨_,rfl⟩
      have HP7:Hid ((wr.alloc op).heap[wr.heap.size]?=some op):=heap_alloc_new _ _
      have Hb7:Hid (Below V6.heap.size V6 (wr.alloc op)):=Hb.out.alloc Hb.out.size op
      have Hb8:Hid (Below w3.heap.size w3 (wr.alloc op)):=Hb6.out.trans (Hb7.out.mono Hb6.out.size)
      have hX7:=(Hb8.out.block _ (lt_of_block HX3.out)).trans HX3.out
      subst hop
      have l6:Hid ((wr.alloc (.cells #[O J q.task,O J q.c.kind,O J q.c.a,O J q.c.b,O J q.c.time,O J q.c.bk,O J q.c.slot,O J q.fro,O J q.to,O J q.e,O J q.slot,O J q.n,Y aK q.keys.length cK] 78)).rangeAt w1.heap.size 0 [Y aS W0.m.slots.length cS,Y aH W0.m.heads.length cH,Y aF W0.m.free.length cF,Y aL W0.m.locks.length cL,O J W0.m.now,Y aT W0.ts.length cT]):=Ag hX7 rfl
      have lp:Hid ((wr.alloc (.cells #[O J q.task,O J q.c.kind,O J q.c.a,O J q.c.b,O J q.c.time,O J q.c.bk,O J q.c.slot,O J q.fro,O J q.to,O J q.e,O J q.slot,O J q.n,Y aK q.keys.length cK] 78)).rangeAt wr.heap.size 0 (q.enc aK cK)):=Ag HP7.out rfl
      clear hc hr hq hX7 Hb
      go_wp2_with (first|refine wl_P rfl _ rfl rfl lq.out ?_|refine wl_6 rfl _ rfl rfl l6.out ?_|refine wl_P rfl _ rfl rfl lp.out ?_)
      clear lq l6 lp
      generalize World.alloc wr _=V7 at *
      refine(HWt.out V7 q aK cK Hb8.out Hq.out).mono ?_
      rintro e w9 ⟨R,rfl,h1,h2,hb9⟩
      obtain⟨-,c7,c8,-,-,-⟩:=Ib ((hb9.block _ (lt_of_block HP7.out)).trans HP7.out)
      have Hb9:Hid (Below V6.heap.size V6 w9):=Hb7.out.trans (hb9.mono Hb7.out.size)
      have n1:¬ (R<(q.fro:Int)):=by omega
      have n2:¬ ((q.to:Int)<R):=by omega
      clear hb9 HP7 Hb7 Hb8 h1 h2
      go_wp2
      go_roundw
      case rel=>exact⟨k+1,by omega,by go_num,Hb9⟩
      case measure=>simp[intOf];omega
     ·have hlt':¬ ((k:Int)<(nP:Int)):=by omega
      go_wp2
      go_ret
      exact⟨rfl,Hb3.out.trans ((Hb6.out.trans (Hb.out.mono Hb6.out.size)).mono Hb3.out.size)⟩
  ·obtain⟨d,rfl⟩:∃ d,nP=d+12:=⟨nP - 12,by omega⟩
   have e1:wrap64 (((d+12:Nat):Int) - 12)=(d:Int):=by unfold wrap64;omega
   have e2:IntKind.i64.wrap (((d+12:Nat):Int) - 12)=(d:Int):=by rw[IntKind.wrap_i64];omega
   have e3:(0:Int)<(d:Int):=by omega
   cases a4 with
   | none=>have:=(HNil.out rfl).2;omega
   | some ad =>
    obtain⟨g,off,ow⟩:=ad
    obtain⟨h1,h2⟩:=HSome.out _ rfl
    cases h2
    cases h1
    have HPa:Hid (Yn (w5.alloc o6) (some ⟨g,0+d*13,none⟩) 12 sE.past):=HC6.out d 12 (by omega)
    clear HC6 HNil HSome
    go_wp2_with fail
    rw[<- ho6]
    generalize w5.alloc o6=V6 at *
    clear e1 e2 e3 ho6 h12
    go_loopw [54] (fun i wr=>∃ k:Nat,k<=12/\i=O J k/\Hid (Below V6.heap.size V6 wr)) (fun i _=>12 - (intOf i).toNat)
    case atStart=>exact⟨0,Nat.zero_le _,rfl,Below.refl _ _⟩
    case round =>
     obtain⟨k,hk,rfl,Hb⟩:=hrel
     by_cases hlt:k<12
     ·have hlt':(k:Int)<(12:Int):=by omega
      rcases (HPa.out.below Hb.out).at_ with h0|⟨b,o,e,hc⟩
      ·omega
      cases e
      obtain⟨q,aK,cK,hq,hr⟩:=hc k hlt
      have lq:Hid (wr.rangeAt g (d*13+k*13) (q.enc aK cK)):=by
       have h:=hr
       rw[show 0+d*13+k*13=d*13+k*13 by omega] at h
       exact h
      have Hq:Hid (q∈sE.past):=hq
      obtain⟨op,hop⟩:∃ o:Obj,o=.cells #[O J q.task,O J q.c.kind,O J q.c.a,O J q.c.b,O J q.c.time,O J q.c.bk,O J q.c.slot,O J q.fro,O J q.to,O J q.e,O J q.slot,O J q.n,Y aK q.keys.length cK] 78:=⟨_,rfl⟩
      have HP7:Hid ((wr.alloc op).heap[wr.heap.size]?=some op):=heap_alloc_new _ _
      have Hb7:Hid (Below V6.heap.size V6 (wr.alloc op)):=Hb.out.alloc Hb.out.size op
      have Hb8:Hid (Below w3.heap.size w3 (wr.alloc op)):=Hb6.out.trans (Hb7.out.mono Hb6.out.size)
      have hX7:=(Hb8.out.block _ (lt_of_block HX3.out)).trans HX3.out
      subst hop
      have l6:Hid ((wr.alloc (.cells #[O J q.task,O J q.c.kind,O J q.c.a,O J q.c.b,O J q.c.time,O J q.c.bk,O J q.c.slot,O J q.fro,O J q.to,O J q.e,O J q.slot,O J q.n,Y aK q.keys.length cK] 78)).rangeAt w1.heap.size 0 [Y aS W0.m.slots.length cS,Y aH W0.m.heads.length cH,Y aF W0.m.free.length cF,Y aL W0.m.locks.length cL,O J W0.m.now,Y aT W0.ts.length cT]):=Ag hX7 rfl
      have lp:Hid ((wr.alloc (.cells #[O J q.task,O J q.c.kind,O J q.c.a,O J q.c.b,O J q.c.time,O J q.c.bk,O J q.c.slot,O J q.fro,O J q.to,O J q.e,O J q.slot,O J q.n,Y aK q.keys.length cK] 78)).rangeAt wr.heap.size 0 (q.enc aK cK)):=Ag HP7.out rfl
      clear hc hr hq hX7 Hb
      go_wp2_with (first|refine wl_P rfl _ rfl rfl lq.out ?_|refine wl_6 rfl _ rfl rfl l6.out ?_|refine wl_P rfl _ rfl rfl lp.out ?_)
      clear lq l6 lp
      generalize World.alloc wr _=V7 at *
      refine(HWt.out V7 q aK cK Hb8.out Hq.out).mono ?_
      rintro e w9 ⟨R,rfl,h1,h2,hb9⟩
      obtain⟨-,c7,c8,-,-,-⟩:=Ib ((hb9.block _ (lt_of_block HP7.out)).trans HP7.out)
      have Hb9:Hid (Below V6.heap.size V6 w9):=Hb7.out.trans (hb9.mono Hb7.out.size)
      have n1:¬ (R<(q.fro:Int)):=by omega
      have n2:¬ ((q.to:Int)<R):=by omega
      clear hb9 HP7 Hb7 Hb8 h1 h2
      go_wp2
      go_roundw
      case rel=>exact⟨k+1,by omega,by go_num,Hb9⟩
      case measure=>simp[intOf];omega
     ·have hlt':¬ ((k:Int)<(12:Int)):=by omega
      go_wp2
      go_ret
      exact⟨rfl,Hb3.out.trans ((Hb6.out.trans (Hb.out.mono Hb6.out.size)).mono Hb3.out.size)⟩
theorem storyHolds_any(many buckets tasks:Int)(l:List Pk)(aP:Option Addr)(cP:Nat)(w:World)(r:PRow w aP cP l) :
  Calls Tryz.prog 13 #[O J many,O J buckets,O J tasks,Y aP l.length cP] w fun e w'=>e=.returned (.bool true)/\Below w.heap.size w w':=by
 by_cases h:l.length<=300
 ·exact a0s many buckets tasks l aP cP w r l.length (Nat.le_refl _) (.inl ⟨by omega,rfl⟩)
 ·exact a0s many buckets tasks l aP cP w r 300 (by omega) (.inr ⟨by omega,rfl⟩)
end
end Go.Proofs.YthhgoenomehobaaGreat.mm
