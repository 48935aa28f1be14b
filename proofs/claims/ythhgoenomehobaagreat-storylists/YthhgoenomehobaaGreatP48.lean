/- Parts. -/
import Derived.Test.YthhgoenomehobaaGreatP46
import Derived.Test.YthhgoenomehobaaGreatP05
import Derived.Test.YthhgoenomehobaaGreatP40
namespace Go.Proofs.YthhgoenomehobaaGreat.mm
set_option maxRecDepth 100000
set_option linter.unusedVariables false
open Go.Value renaming int → O, slice → Y
open Go.IntKind renaming i64 → J
section
open Go.ChangeShapes Go.WideShapes Go.ChangeAt Go.RowKit Go.Joins Go.Deep Go.Maps
set_option maxHeartbeats 4000000 in
theorem Yj(many buckets tasks:Int)(l:List Pk)(aP:Option Addr)(cP:Nat)(w:World)(r:PRow w aP cP l)(m:Nat)(hm:m<=l.length)(hm':(l.length:Int)<=300/\m=l.length\/(300:Int)<(l.length:Int)/\m=300) :
  Calls Tryz.prog 12 #[O J many,O J buckets,O J tasks,Y aP l.length cP] w fun e w'=>e=.returned (.bool true)/\Below w.heap.size w w':=by
 have m1:=r.max
 have m2:=r.le
 have HR:Hid (PRow w aP cP (l.take m)):=r.take hm
 have HN:Hid (aP=none->cP=0):=r.nil
 have hm3:m<=300:=by omega
 have hmc:m<=cP:=by omega
 have HPl:Hid (∀ W:World,Calls Tryz.prog 18 #[] W fun e w'=>e=.returned (.bool true)/\Below W.heap.size W w'):=Tv
 have HNw:=Ym many buckets tasks w
 clear r
 go_enter Tryz.func12,Tryz.ntmps12
 go_wp2_with fail
 refine HNw.mono ?_
 rintro e w1 ⟨v,rfl,hv,hb1⟩
 obtain⟨E,hE⟩:∃ E,E=Oo many buckets tasks:=⟨_,rfl⟩
 rw[<- hE] at hv ⊢
 clear HNw
 by_cases h0:E=0
 rotate_left
 ·have h':(E != 0)=true:=by simpa using h0
  obtain⟨aS,aH,aF,aL,cS,cH,cF,cL,aT,cT,lt,rfl,-⟩:=hv
  have Hb2:Hid (∀ o:Obj,Below w.heap.size w (w1.alloc o)):=fun o=>hb1.alloc hb1.size o
  clear hE hm' hb1
  go_wp2_with fail
  refine(HPl.out _).mono ?_
  rintro e w3 ⟨rfl,hb3⟩
  have Hb3:Hid (Below w.heap.size w w3):=(Hb2.out _).trans (hb3.mono (Hb2.out _).size)
  clear hb3 Hb2
  go_wp2_with fail
  refine(HPl.out _).mono ?_
  rintro e w4 ⟨rfl,hb4⟩
  have Hb4:Hid (Below w.heap.size w w4):=Hb3.out.trans (hb4.mono Hb3.out.size)
  clear hb4 Hb3
  go_wp2
  go_ret
  exact⟨rfl,Hb4.out⟩
 rw[if_pos h0] at hv
 obtain⟨h12,h14,h15⟩:=a3i (hE.symm.trans h0)
 have HI:Hid (WInv (newW many.toNat buckets.toNat tasks.toNat)):=a3k h12 h14 h15
 have HIdl:Hid (∀ t∈(newW many.toNat buckets.toNat tasks.toNat).ts,t.busy=false):=new_idle _ _ _
 clear hE h12 h14 h15
 subst h0
 generalize newW many.toNat buckets.toNat tasks.toNat=W0 at *
 obtain⟨aS,aH,aF,aL,cS,cH,cF,cL,aT,cT,lt,rfl,-⟩:=id hv
 obtain⟨oX,hoX⟩:∃ o:Obj,o=.cells #[Y aS W0.m.slots.length cS,Y aH W0.m.heads.length cH,Y aF W0.m.free.length cF,Y aL W0.m.locks.length cL,O J W0.m.now,Y aT W0.ts.length cT] 28:=⟨_,rfl⟩
 have b2:Below w1.heap.size w1 (w1.alloc oX):=Aa _ _
 have Hb12:Hid (Below w1.heap.size w1 (w1.alloc oX)):=b2
 have HWi1:Hid (WIn 0 w1.heap.size w1 (.agg #[Y aS W0.m.slots.length cS,Y aH W0.m.heads.length cH,Y aF W0.m.free.length cF,Y aL W0.m.locks.length cL,O J W0.m.now,Y aT W0.ts.length cT]) W0):=(hv.mono (Nat.zero_le _)).wIn
 have HX2:Hid ((w1.alloc oX).heap[w1.heap.size]?=some oX):=heap_alloc_new _ _
 have HV2:Hid (WAns 0 (w1.alloc oX) (.agg #[Y aS W0.m.slots.length cS,Y aH W0.m.heads.length cH,Y aF W0.m.free.length cF,Y aL W0.m.locks.length cL,O J W0.m.now,Y aT W0.ts.length cT]) W0):=(hv.below b2).mono (Nat.zero_le _)
 have Hb2:Hid (Below w.heap.size w (w1.alloc oX)):=hb1.alloc hb1.size _
 have hzX:w.heap.size<=w1.heap.size:=hb1.size
 clear hv hb1 b2
 go_wp2_with fail
 rw[<- hoX]
 generalize w1.alloc oX=W2 at *
 subst hoX
 refine(HPl.out W2).mono ?_
 rintro e w3 ⟨rfl,hb3⟩
 have HX3:Hid (w3.heap[w1.heap.size]?=some (.cells #[Y aS W0.m.slots.length cS,Y aH W0.m.heads.length cH,Y aF W0.m.free.length cF,Y aL W0.m.locks.length cL,O J W0.m.now,Y aT W0.ts.length cT] 28 (0,0))):=(hb3.block _ (lt_of_block HX2.out)).trans HX2.out
 have HV3:Hid (WAns 0 w3 (.agg #[Y aS W0.m.slots.length cS,Y aH W0.m.heads.length cH,Y aF W0.m.free.length cF,Y aL W0.m.locks.length cL,O J W0.m.now,Y aT W0.ts.length cT]) W0):=HV2.out.below hb3
 have Hb3:Hid (Below w.heap.size w w3):=Hb2.out.trans (hb3.mono Hb2.out.size)
 have Hb13:Hid (Below w1.heap.size w1 w3):=Hb12.out.trans (hb3.mono Hb12.out.size)
 clear HX2 HV2 Hb2 hb3 Hb12
 obtain⟨y0,y1,y2,y3,y4,y5,ys⟩:=Df HX3.out
 obtain⟨sE,hsE⟩:∃ sE:Rs,sE=runR 0 (rs0 W0) (l.take m):=⟨_,rfl⟩
 obtain⟨lm,hlm⟩:∃ lm,lm=l.take m:=⟨_,rfl⟩
 have hlml:lm.length=m:=by rw[hlm,List.length_take];omega
 have HPs:Hid (∀ q∈sE.past,q.fro<=q.to/\q.to<m/\(q.c.kind=5->q.keys=(chL (runW W0 (lm.take (q.to+1))).m q.c.bk.toNat).map (keyAt (runW W0 (lm.take (q.to+1))).m))/\(q.c.kind=4->∀ x∈chL (runW W0 (lm.take (q.to+1))).m q.c.bk.toNat,(runW W0 (lm.take q.fro)).m.now<(A8 (runW W0 (lm.take (q.to+1))).m x).unt)/\BkOk W0.m.heads.length q):=by
  have h:=Xq HI.out HIdl.out lm
  have h':=run_bk lm 0 (rs0 W0) HI.out (fun p hp=>by cases hp)
  show ∀ q∈sE.past,_
  rw[hsE,<- hlm]
  intro q hq
  obtain⟨h1,h2,h3,h4⟩:=h q hq
  exact⟨h1,by omega,h3,h4,h' q hq⟩
 have HI0:Hid (WInv W0):=HI
 have HRn:Hid (∀ V:World,Below w3.heap.size w3 V->Calls Tryz.prog 35 #[.agg #[Y aS W0.m.slots.length cS,Y aH W0.m.heads.length cH,Y aF W0.m.free.length cF,Y aL W0.m.locks.length cL,O J W0.m.now,Y aT W0.ts.length cT],Y aP m cP] V (RunP V sE)):=fun V hb=>by
  have h:=run_any HI.out (.agg #[Y aS W0.m.slots.length cS,Y aH W0.m.heads.length cH,Y aF W0.m.free.length cF,Y aL W0.m.locks.length cL,O J W0.m.now,Y aT W0.ts.length cT]) aP cP (l.take m) V (HV3.out.below hb) ((HR.out.below Hb3.out).below hb) (by rw[List.length_take];omega)
  rw[show (l.take m).length=m by rw[List.length_take];omega] at h
  rw[hsE]
  exact h
 have Hfew:Hid (sE.past.length<=300):=by
  have h:=Yu (l.take m) 0 (rs0 W0)
  show _<=_
  rw[hsE]
  rw[List.length_take] at h
  exact Nat.le_trans h (by show 0+_<=_;omega)
 clear hsE HIdl HI
 rcases hm' with ⟨hl,hml⟩|⟨hl,hml⟩
 all_goals subst hml
 all_goals go_wp2_with fail
 all_goals
  refine(HRn.out w3 (Below.refl _ _)).mono ?_
  rintro e w5 ⟨v5,v15,v45,pl,rfl,hv5,ho1,ho4,hpk,hpl,hb5⟩
  obtain⟨aS5,aH5,aF5,aL5,cS5,cH5,cF5,cL5,aT5,cT5,lt5,rfl,-⟩:=id hv5
  obtain⟨a1,k1,rfl⟩:=Cb ho1
  obtain⟨a4,k4,rfl⟩:=Cb ho4
  have HO4:Hid (w5.ownsRow w3.heap.size 78 13 (Y a4 pl.length k4) pl.length (encP pl)):=ho4
  have HPm:Hid (pl.map (·.1)=sE.past):=hpl
  have HPk:Hid (∀ q∈pl,KOwn w5 w3.heap.size q.2.1 q.2.2 q.1.keys):=hpk
  have hfew:pl.length<=300:=by
   have h:=Hfew.out
   rw[<- hpl,List.length_map] at h
   exact h
  have Hb5:Hid (Below w3.heap.size w3 w5):=hb5
  clear hv5 ho1 ho4 hpk hpl hb5 HRn
  have hX5:=(Hb5.out.block _ (lt_of_block HX3.out)).trans HX3.out
  obtain⟨x0,x1,x2,x3,x4,x5,xs⟩:=Df hX5
  obtain⟨o6,ho6⟩:∃ o:Obj,o=.cells #[Y aS5 sE.w.m.slots.length cS5,Y aH5 sE.w.m.heads.length cH5,Y aF5 sE.w.m.free.length cF5,Y aL5 sE.w.m.locks.length cL5,O J sE.w.m.now,Y aT5 sE.w.ts.length cT5] 28:=⟨_,rfl⟩
  obtain⟨o7,ho7⟩:∃ o:Obj,o=.cells #[Y aS W0.m.slots.length cS,Y aH W0.m.heads.length cH,Y aF W0.m.free.length cF,Y aL W0.m.locks.length cL,O J W0.m.now,Y aT W0.ts.length cT] 28:=⟨_,rfl⟩
  have hzX:w1.heap.size<w5.heap.size:=lt_of_block hX5
  have hz13:w1.heap.size<w3.heap.size:=lt_of_block HX3.out
  have HWs:Hid (Ws w5.heap.size w1.heap.size ((w5.alloc o6).alloc o7) (Y (some ⟨w5.heap.size+1,0,none⟩) 1 1) [(W0,⟨aS,aH,aF,aL,cS,cH,cF,cL,aT,cT⟩)]):=by
   have b15:Below w1.heap.size w1 (w5.alloc o6):=(Hb13.out.trans (Hb5.out.mono Hb13.out.size)).alloc (by omega) o6
   have h:=Ws.one (lo:=w5.heap.size) (X:=w1.heap.size) (w:=w5.alloc o6) (q:=(W0,⟨aS,aH,aF,aL,cS,cH,cF,cL,aT,cT⟩)) (by simp) (by omega) ⟨0,w1.heap.size,HWi1.out.same fun j _ h=>b15.block j h,b15.size,by omega⟩
   rw[show (w5.alloc o6).heap.size=w5.heap.size+1 by simp] at h
   rw[ho7]
   exact h
  have HFi:Hid (Fine w5 ((w5.alloc o6).alloc o7) (fun j=>j=w1.heap.size)):=Fine.of_below _ (below_alloc2 _ _ _)
  have HX7:Hid (((w5.alloc o6).alloc o7).heap[w1.heap.size]?=some (.cells #[Y aS W0.m.slots.length cS,Y aH W0.m.heads.length cH,Y aF W0.m.free.length cF,Y aL W0.m.locks.length cL,O J W0.m.now,Y aT W0.ts.length cT] 28 (0,0))):=((below_alloc2 w5 o6 o7).block _ hzX).trans hX5
  have HR5:Hid (PRow w aP cP lm):=by rw[hlm];exact HR.out
  have Hw5:Hid (Below w.heap.size w w5):=Hb3.out.trans (Hb5.out.mono Hb3.out.size)
  have hm1:lm.length<=300:=by omega
  clear hX5
  go_wp2_with fail
  rw[<- ho6,<- ho7]
  generalize (w5.alloc o6).alloc o7=V7 at *
  clear x0 x1 x2 x3 x4 x5 xs ho6 ho7 HWi1 Hb13 HX3 HV3 HR hlm
  obtain⟨ML,hML⟩:∃ ML:Int,ML=(lm.length:Int):=⟨_,rfl⟩
  first|(rw[show (300:Int)=ML by rw[hML,show lm.length=300 from hlml];rfl])|(rw[show (l.length:Int)=ML by rw[hML,show lm.length=l.length from hlml]])
  have HML:Hid (ML=(lm.length:Int)):=hML
  clear hML
  obtain⟨i0,hi0,hz0,hz1,hz2⟩:=info_parts iW
  have HW0:Hid (W0=runW W0 (lm.take 0)):=rfl
  generalize w1.heap.size=XX at *
  go_loopw [69,14] (fun i vs wr=>∃ (k:Nat) (W:Wd) (wl:List (Wd × WV)) (aS aH aF aL:Option Addr) (cS cH cF cL:Nat) (aT:Option Addr) (cT:Nat),k<=lm.length/\i=O J k/\Hid (W=runW W0 (lm.take k))/\Hid (WInv W)/\Hid (wr.heap[XX]?=some (.cells #[Y aS W.m.slots.length cS,Y aH W.m.heads.length cH,Y aF W.m.free.length cF,Y aL W.m.locks.length cL,O J W.m.now,Y aT W.ts.length cT] 28 (0,0)))/\Hid (Ws w5.heap.size XX wr vs wl)/\Hid (wl.length=k+1/\∀ j (h:j<wl.length),wl[j].1=runW W0 (lm.take j))/\Hid ((W,⟨aS,aH,aF,aL,cS,cH,cF,cL,aT,cT⟩)∈wl)/\Hid (Fine w5 wr (fun j=>j=XX))) (fun i _ _=>lm.length - (intOf i).toNat)
  case atStart =>
   refine⟨0,W0,_,aS,aH,aF,aL,cS,cH,cF,cL,aT,cT,Nat.zero_le _,rfl,HW0,HI0,HX7,HWs,⟨rfl,fun j h=>?_⟩,List.mem_singleton.2 rfl,HFi⟩
   have:j=0:=by simpa using h
   subst this
   exact HW0.out
  case round =>
   clear HW0 HX7 HWs HFi
   obtain⟨k,W,wl,aS,aH,aF,aL,cS,cH,cF,cL,aT,cT,hk,rfl,HWk,HI,HX,HWs,HWl,HMe,HFi⟩:=hrel
   obtain⟨av,cv,rfl⟩:=Cb HWs.out.row
   rw[show wl.length=k+1 from HWl.out.1]
   have HWs':Hid (Ws w5.heap.size XX wr (Y av (k+1) cv) wl):=by show Ws _ _ _ _ _;rw[<- HWl.out.1];exact HWs.out
   clear HWs
   by_cases hlt:k<lm.length
   ·have hlt':(k:Int)<ML:=by rw[HML.out];omega
    have hlt2:=hlt
    rw[hlml] at hlt2
    rcases HR5.out.at_ with h0|⟨bP,oP,rfl,hx⟩
    ·omega
    have hbw:bP<w.heap.size:=cell_lt (hx k hlt 0 _ rfl)
    have lX:Hid (wr.rangeAt bP (oP+k*9) [O J (lm[k]).task,.bool (lm[k]).step,.bool (lm[k]).tick,O J (lm[k]).c.kind,O J (lm[k]).c.a,O J (lm[k]).c.b,O J (lm[k]).c.time,O J (lm[k]).c.bk,O J (lm[k]).c.slot]):=Xn (hx k hlt) ((HFi.out.block bP (by have:=Hw5.out.size;omega) (by omega)).trans (Hw5.out.block bP hbw))
    clear hx hbw
    obtain⟨x,hx⟩:∃ x,x=lm[k]:=⟨_,rfl⟩
    rw[<- hx] at lX
    have HNx:Hid (runW W0 (lm.take (k+1))=Ib W x):=by
     show _=_
     rw[Wl hlt,<- HWk.out,<- hx]
    clear hx
    obtain⟨op,hop⟩:∃ o:Obj,o=.cells #[O J x.task,.bool x.step,.bool x.tick,O J x.c.kind,O J x.c.a,O J x.c.b,O J x.c.time,O J x.c.bk,O J x.c.slot] 34:=⟨_,rfl⟩
    have b2:Below wr.heap.size wr (wr.alloc op):=Aa _ _
    have HP2:Hid ((wr.alloc op).heap[wr.heap.size]?=some op):=heap_alloc_new _ _
    have HX2:Hid ((wr.alloc op).heap[XX]?=some (.cells #[Y aS W.m.slots.length cS,Y aH W.m.heads.length cH,Y aF W.m.free.length cF,Y aL W.m.locks.length cL,O J W.m.now,Y aT W.ts.length cT] 28 (0,0))):=(b2.block _ (lt_of_block HX.out)).trans HX.out
    have HW2:Hid (Ws w5.heap.size XX (wr.alloc op) (Y av (k+1) cv) wl):=HWs'.out.below b2
    have HF2:Hid (Fine w5 (wr.alloc op) (fun j=>j=XX)):=HFi.out.below b2
    subst hop
    have l6:Hid ((wr.alloc (.cells #[O J x.task,.bool x.step,.bool x.tick,O J x.c.kind,O J x.c.a,O J x.c.b,O J x.c.time,O J x.c.bk,O J x.c.slot] 34)).rangeAt XX 0 [Y aS W.m.slots.length cS,Y aH W.m.heads.length cH,Y aF W.m.free.length cF,Y aL W.m.locks.length cL,O J W.m.now,Y aT W.ts.length cT]):=Aw HX2.out rfl
    have lX2:Hid ((wr.alloc (.cells #[O J x.task,.bool x.step,.bool x.tick,O J x.c.kind,O J x.c.a,O J x.c.b,O J x.c.time,O J x.c.bk,O J x.c.slot] 34)).rangeAt wr.heap.size 0 [O J x.task,.bool x.step,.bool x.tick,O J x.c.kind,O J x.c.a,O J x.c.b,O J x.c.time,O J x.c.bk,O J x.c.slot]):=Aw HP2.out rfl
    clear HX HWs' HFi b2
    go_wp2_with (first|refine wl_X rfl _ rfl rfl lX.out ?_|refine wl_6 rfl _ rfl rfl l6.out ?_|refine wl_X rfl _ rfl rfl lX2.out ?_)
    clear l6 lX2 lX HP2
    generalize World.alloc wr _=W2 at *
    obtain⟨a9,b9,hWi,-,-,-⟩:=HW2.out.el _ HMe.out
    refine(do_inv HI.out (x:=x) (hWi W2 (fun _ _ _=>rfl))).mono ?_
    clear hWi
    rintro e w3 ⟨v3,rfl,hv3,hb3⟩
    obtain⟨E,hE⟩:∃ E,E=doE W x:=⟨_,rfl⟩
    rw[<- hE] at hv3 ⊢
    have HE:Hid (E=doE W x):=hE
    have hz3:=hb3.size
    clear hE HWk
    by_cases hE0:E=0
    focus
     rw[if_pos hE0] at hv3
     obtain⟨Wn,hWn⟩:∃ Wn,Wn=doW W x:=⟨_,rfl⟩
     rw[<- hWn] at hv3
     have HIn:Hid (WInv Wn):=by show WInv Wn;rw[hWn];exact Nb HI.out (HE.out.symm.trans hE0)
     have HWn:Hid (Wn=runW W0 (lm.take (k+1))):=by show _=_;rw[HNx.out];unfold Ib;rw[<- HE.out,if_pos hE0,hWn]
     obtain⟨aS3,aH3,aF3,aL3,cS3,cH3,cF3,cL3,aT3,cT3,lt3,rfl,-⟩:=id hv3
     obtain⟨on,hon⟩:∃ o:Obj,o=.cells #[Y aS3 Wn.m.slots.length cS3,Y aH3 Wn.m.heads.length cH3,Y aF3 Wn.m.free.length cF3,Y aL3 Wn.m.locks.length cL3,O J Wn.m.now,Y aT3 Wn.ts.length cT3] 28:=⟨_,rfl⟩
     have hb4:Below W2.heap.size W2 (w3.alloc on):=hb3.alloc hb3.size on
     have HN4:Hid ((w3.alloc on).heap[w3.heap.size]?=some on):=heap_alloc_new _ _
     have hX4:(w3.alloc on).heap[XX]?=some (.cells #[Y aS W.m.slots.length cS,Y aH W.m.heads.length cH,Y aF W.m.free.length cF,Y aL W.m.locks.length cL,O J W.m.now,Y aT W.ts.length cT] 28 (0,0)):=(hb4.block _ (lt_of_block HX2.out)).trans HX2.out
     have t6:Hid ((w3.alloc on).there XX 0 6):=Bz hX4 (by simp)
     obtain⟨W4,hW4⟩:∃ W4,W4=(w3.alloc on).setCells XX 0 [Y aS3 Wn.m.slots.length cS3,Y aH3 Wn.m.heads.length cH3,Y aF3 Wn.m.free.length cF3,Y aL3 Wn.m.locks.length cL3,O J Wn.m.now,Y aT3 Wn.ts.length cT3]:=⟨_,rfl⟩
     have ho4:∀ j,j≠XX->W4.heap[j]?=(w3.alloc on).heap[j]?:=fun j hj=>by rw[hW4];exact Ad hj _ _ _
     have hs4:W4.heap.size=(w3.alloc on).heap.size:=by rw[hW4];exact setCells_size _ _ _
     have HX5:Hid (W4.heap[XX]?=some (.cells #[Y aS3 Wn.m.slots.length cS3,Y aH3 Wn.m.heads.length cH3,Y aF3 Wn.m.free.length cF3,Y aL3 Wn.m.locks.length cL3,O J Wn.m.now,Y aT3 Wn.ts.length cT3] 28 (0,0))):=by show _=_;rw[hW4];exact Bg hX4 rfl
     have HW5:Hid (Ws w5.heap.size XX W4 (Y av (k+1) cv) wl):=(HW2.out.below hb4).off (by omega) ho4
     have HSi:Hid (Sits W4 XX (Y av (k+1) cv) (Wn,⟨aS3,aH3,aF3,aL3,cS3,cH3,cF3,cL3,aT3,cT3⟩)):=by
      have h1:=lt_of_block HX2.out
      refine⟨W2.heap.size,w3.heap.size,hv3.wIn.same fun j h5 h6=>(ho4 j (by omega)).trans ((Aa _ _).block j h6),by rw[hs4];simp,by omega,fun g hg hx=>?_⟩
      have:=(HW2.out.row.lt g hg).2
      omega
     have HF5:Hid (Fine w5 W4 (fun j=>j=XX)):=by rw[hW4];exact Xa (HF2.out.below hb4) (.inl rfl)
     have l6:Hid (W4.rangeAt XX 0 [Y aS3 Wn.m.slots.length cS3,Y aH3 Wn.m.heads.length cH3,Y aF3 Wn.m.free.length cF3,Y aL3 Wn.m.locks.length cL3,O J Wn.m.now,Y aT3 Wn.ts.length cT3]):=Aw HX5.out rfl
     subst hon
     have l7:Hid ((w3.alloc (.cells #[Y aS3 Wn.m.slots.length cS3,Y aH3 Wn.m.heads.length cH3,Y aF3 Wn.m.free.length cF3,Y aL3 Wn.m.locks.length cL3,O J Wn.m.now,Y aT3 Wn.ts.length cT3] 28)).rangeAt w3.heap.size 0 [Y aS3 Wn.m.slots.length cS3,Y aH3 Wn.m.heads.length cH3,Y aF3 Wn.m.free.length cF3,Y aL3 Wn.m.locks.length cL3,O J Wn.m.now,Y aT3 Wn.ts.length cT3]):=Aw HN4.out rfl
     clear hv3 hb3 hb4 HX2 HW2 HF2 HN4 hX4 ho4 hs4 hWn HE HNx HI HMe
     subst hE0
     have HN9:Hid (∀ (j:Nat) (u:Value),[Y aS3 Wn.m.slots.length cS3,Y aH3 Wn.m.heads.length cH3,Y aF3 Wn.m.free.length cF3,Y aL3 Wn.m.locks.length cL3,O J Wn.m.now,Y aT3 Wn.ts.length cT3][j]?=some u->(W4.alloc (.cells #[Y aS3 Wn.m.slots.length cS3,Y aH3 Wn.m.heads.length cH3,Y aF3 Wn.m.free.length cF3,Y aL3 Wn.m.locks.length cL3,O J Wn.m.now,Y aT3 Wn.ts.length cT3] 28)).cell? ((⟨W4.heap.size,0,none⟩:Addr).add j)=some u):=a4k W4 _ _ _ _ _ _ _
     have ho:=HW5.out.row
     have hlo5:=HF5.out.size
     rw[HWl.out.1] at ho
     go_wp2_with (first|refine wl_6 rfl _ rfl rfl l7.out ?_|(refine ws_6 rfl _ _ rfl rfl rfl t6.out (by kernel_rfl) ?_;rw[<- hW4];clear hW4 t6)|refine wl_6 rfl _ rfl rfl l6.out ?_|(at_builtin;go_loud (refine wpList_append_own_at _ rfl (.tmp 82) (.tmp 84) 97 rfl w5.heap.size 28 i0 (.agg #[Y none 0 0,Y none 0 0,Y none 0 0,Y none 0 0,O J 0,Y none 0 0]) 6 128 Tryz.underlying97 hi0 hz0 hz1 hz2 rfl (by decide) _ _ _ rfl (ho.alloc _) ⟨W4.heap.size,0,none⟩ 1 1 [Y aS3 Wn.m.slots.length cS3,Y aH3 Wn.m.heads.length cH3,Y aF3 Wn.m.free.length cF3,Y aL3 Wn.m.locks.length cL3,O J Wn.m.now,Y aT3 Wn.ts.length cT3] rfl rfl HN9.out (by intro x hx;simp only[List.mem_cons,List.not_mem_nil,or_false] at hx;rcases hx with rfl|rfl|rfl|rfl|rfl|rfl <;> rfl) (by unfold maxLen;omega) (by omega) (by simp;omega) ?_);intro v2 w9 ho2 hg2 _ hloc2;obtain⟨g2,cap2,rfl⟩:=ownsRow_form ho2 (by omega)))
     clear l6 l7
    rotate_left
    focus
     rw[if_neg hE0] at hv3
     obtain⟨aSq,aHq,aFq,aLq,cSq,cHq,cFq,cLq,aTq,cTq,_,rfl,-⟩:=hv3
     have h':(E==0)=false:=by simpa using hE0
     obtain⟨aS3,rfl⟩:∃ y,y=aS:=⟨_,rfl⟩
     obtain⟨aH3,rfl⟩:∃ y,y=aH:=⟨_,rfl⟩
     obtain⟨aF3,rfl⟩:∃ y,y=aF:=⟨_,rfl⟩
     obtain⟨aL3,rfl⟩:∃ y,y=aL:=⟨_,rfl⟩
     obtain⟨cS3,rfl⟩:∃ y,y=cS:=⟨_,rfl⟩
     obtain⟨cH3,rfl⟩:∃ y,y=cH:=⟨_,rfl⟩
     obtain⟨cF3,rfl⟩:∃ y,y=cF:=⟨_,rfl⟩
     obtain⟨cL3,rfl⟩:∃ y,y=cL:=⟨_,rfl⟩
     obtain⟨aT3,rfl⟩:∃ y,y=aT:=⟨_,rfl⟩
     obtain⟨cT3,rfl⟩:∃ y,y=cT:=⟨_,rfl⟩
     obtain⟨Wn,rfl⟩:∃ y,y=W:=⟨_,rfl⟩
     have HIn:Hid (WInv Wn):=HI
     have HWn:Hid (Wn=runW W0 (lm.take (k+1))):=by show _=_;rw[HNx.out];unfold Ib;rw[<- HE.out,if_neg hE0]
     obtain⟨on,hon⟩:∃ o:Obj,o=.cells #[Y aSq w0W.m.slots.length cSq,Y aHq w0W.m.heads.length cHq,Y aFq w0W.m.free.length cFq,Y aLq w0W.m.locks.length cLq,O J w0W.m.now,Y aTq w0W.ts.length cTq] 28:=⟨_,rfl⟩
     have hb4:Below W2.heap.size W2 (w3.alloc on):=hb3.alloc hb3.size on
     have HX5:Hid ((w3.alloc on).heap[XX]?=some (.cells #[Y aS3 Wn.m.slots.length cS3,Y aH3 Wn.m.heads.length cH3,Y aF3 Wn.m.free.length cF3,Y aL3 Wn.m.locks.length cL3,O J Wn.m.now,Y aT3 Wn.ts.length cT3] 28 (0,0))):=(hb4.block _ (lt_of_block HX2.out)).trans HX2.out
     have HW5:Hid (Ws w5.heap.size XX (w3.alloc on) (Y av (k+1) cv) wl):=HW2.out.below hb4
     have HSi:Hid (Sits (w3.alloc on) XX (Y av (k+1) cv) (Wn,⟨aS3,aH3,aF3,aL3,cS3,cH3,cF3,cL3,aT3,cT3⟩)):=HW5.out.el _ HMe.out
     have HF5:Hid (Fine w5 (w3.alloc on) (fun j=>j=XX)):=HF2.out.below hb4
     have l6:Hid ((w3.alloc on).rangeAt XX 0 [Y aS3 Wn.m.slots.length cS3,Y aH3 Wn.m.heads.length cH3,Y aF3 Wn.m.free.length cF3,Y aL3 Wn.m.locks.length cL3,O J Wn.m.now,Y aT3 Wn.ts.length cT3]):=Aw HX5.out rfl
     obtain⟨W4,hW4⟩:∃ W4,W4=w3.alloc on:=⟨_,rfl⟩
     rw[<- hW4] at HX5 HW5 HSi HF5 l6
     rw[hon] at hW4
     have HW4:Hid (W4=w3.alloc (.cells #[Y aSq w0W.m.slots.length cSq,Y aHq w0W.m.heads.length cHq,Y aFq w0W.m.free.length cFq,Y aLq w0W.m.locks.length cLq,O J w0W.m.now,Y aTq w0W.ts.length cTq] 28)):=hW4
     clear hW4 hb3 hb4 HX2 HW2 HF2 HE HNx HI hE0 HMe hon
     have HN9:Hid (∀ (j:Nat) (u:Value),[Y aS3 Wn.m.slots.length cS3,Y aH3 Wn.m.heads.length cH3,Y aF3 Wn.m.free.length cF3,Y aL3 Wn.m.locks.length cL3,O J Wn.m.now,Y aT3 Wn.ts.length cT3][j]?=some u->(W4.alloc (.cells #[Y aS3 Wn.m.slots.length cS3,Y aH3 Wn.m.heads.length cH3,Y aF3 Wn.m.free.length cF3,Y aL3 Wn.m.locks.length cL3,O J Wn.m.now,Y aT3 Wn.ts.length cT3] 28)).cell? ((⟨W4.heap.size,0,none⟩:Addr).add j)=some u):=a4k W4 _ _ _ _ _ _ _
     have ho:=HW5.out.row
     have hlo5:=HF5.out.size
     rw[HWl.out.1] at ho
     go_wp2_with (first|(rw[<- HW4.out];refine wl_6 rfl _ rfl rfl l6.out ?_)|(at_builtin;go_loud (refine wpList_append_own_at _ rfl (.tmp 82) (.tmp 84) 97 rfl w5.heap.size 28 i0 (.agg #[Y none 0 0,Y none 0 0,Y none 0 0,Y none 0 0,O J 0,Y none 0 0]) 6 128 Tryz.underlying97 hi0 hz0 hz1 hz2 rfl (by decide) _ _ _ rfl (ho.alloc _) ⟨W4.heap.size,0,none⟩ 1 1 [Y aS3 Wn.m.slots.length cS3,Y aH3 Wn.m.heads.length cH3,Y aF3 Wn.m.free.length cF3,Y aL3 Wn.m.locks.length cL3,O J Wn.m.now,Y aT3 Wn.ts.length cT3] rfl rfl HN9.out (by intro x hx;simp only[List.mem_cons,List.not_mem_nil,or_false] at hx;rcases hx with rfl|rfl|rfl|rfl|rfl|rfl <;> rfl) (by unfold maxLen;omega) (by omega) (by simp;omega) ?_);intro v2 w9 ho2 hg2 _ hloc2;obtain⟨g2,cap2,rfl⟩:=ownsRow_form ho2 (by omega)))
     clear l6 h' HW4
    all_goals
     obtain⟨wl2,hwl2⟩:∃ wl2:List (Wd × WV),wl2=wl ++ [(Wn,⟨aS3,aH3,aF3,aL3,cS3,cH3,cF3,cL3,aT3,cT3⟩)]:=⟨_,rfl⟩
     have HWs2:Hid (Ws w5.heap.size XX w9 (Y (some ⟨g2,0,none⟩) (k+1+1) cap2) wl2):=by rw[hwl2];exact HW5.out.push HSi.out hg2 (by rw[HWl.out.1];exact ho2) hloc2
     have hgb:∀ j,j<w5.heap.size->w9.heap[j]?=W4.heap[j]?:=fun j hj=>by
      rw[hg2.block j (by simp;omega) (fun e=>by have:=(ho.lt j e.symm).1;omega)]
      exact Below.heap_alloc _ _ _ (by omega)
     have HX9:Hid (w9.heap[XX]?=some (.cells #[Y aS3 Wn.m.slots.length cS3,Y aH3 Wn.m.heads.length cH3,Y aF3 Wn.m.free.length cF3,Y aL3 Wn.m.locks.length cL3,O J Wn.m.now,Y aT3 Wn.ts.length cT3] 28 (0,0))):=(hgb XX (by omega)).trans HX5.out
     have HF9:Hid (Fine w5 w9 (fun j=>j=XX)):=⟨hg2.os.trans HF5.out.os,hg2.tape.trans HF5.out.tape,hg2.output.trans HF5.out.output,by have:=hg2.size;simp at this;omega,fun j h1 h2=>(hgb j h1).trans (HF5.out.block j h1 h2)⟩
     have HWl9:Hid (wl2.length=k+1+1/\∀ j (h:j<wl2.length),wl2[j].1=runW W0 (lm.take j)):=by
      subst hwl2
      refine⟨by rw[List.length_append,HWl.out.1];rfl,fun j h=>?_⟩
      by_cases hj:j<wl.length
      ·rw[List.getElem_append_left hj];exact HWl.out.2 j hj
      ·rw[List.length_append] at h
       have e:j=k+1:=by have:=HWl.out.1;simp at h;omega
       subst e
       rw[List.getElem_append_right (by omega)]
       simp[HWl.out.1]
       exact HWn.out
     have HMe9:Hid ((Wn,⟨aS3,aH3,aF3,aL3,cS3,cH3,cF3,cL3,aT3,cT3⟩)∈wl2):=by rw[hwl2];exact List.mem_append_right _ (List.mem_singleton.2 rfl)
     clear hwl2
     clear ho2 hg2 hloc2 ho hgb HX5 HW5 HSi HF5 HN9
     go_roundw
     case rel=>exact⟨k+1,Wn,_,aS3,aH3,aF3,aL3,cS3,cH3,cF3,cL3,aT3,cT3,by omega,by go_num,HWn,HIn,HX9,HWs2,HWl9,HMe9,HF9⟩
     case measure=>simp[intOf];omega
   ·have hlt':¬ ((k:Int)<ML):=by rw[HML.out];omega
    have hkE:k=lm.length:=by omega
    have HKm:Hid (k=lm.length):=hkE
    have HPa:Hid (∀ i,(h:i<pl.length)->∃ g4,a4=some ⟨g4,0,none⟩/\wr.rangeAt g4 (i*13) (pl[i].1.enc pl[i].2.1 pl[i].2.2)/\KOwn wr w3.heap.size pl[i].2.1 pl[i].2.2 pl[i].1.keys/\pl[i].1∈sE.past):=fun i h=>by
     obtain⟨g4,rfl,-,hg1,hg2,hc⟩:=We HO4.out (by omega)
     have hsame:∀ j,w3.heap.size<=j->j<w5.heap.size->wr.heap[j]?=w5.heap[j]?:=fun j h1 h2=>HFi.out.block j h2 (by omega)
     refine⟨g4,rfl,fun j v hv=>?_,(HPk.out _ (List.getElem_mem h)).same fun ad e=>?_,?_⟩
     ·have hj:j<13:=(List.getElem?_eq_some_iff.1 hv).1
      rw[World.cell?_of_block (hsame g4 hg1 hg2),hc _ (by omega),Ya pl i j h hj]
      exact hv
     ·have:=(HPk.out _ (List.getElem_mem h)).lt ad e
      exact hsame _ this.1 this.2
     ·rw[<- HPm.out];exact List.mem_map_of_mem (List.getElem_mem h)
    have HBe:Hid (Below w.heap.size w wr):=Hw5.out.trans (HFi.out.down Hw5.out.size (fun j hj=>by omega))
    have hk4:pl.length<=k4:=by
     obtain⟨-,h⟩:=HO4.out
     rcases h with ⟨-,h⟩|⟨g,c',cur,hv,-,-,hn,-⟩
     ·omega
     ·injection hv with _ _ e;omega
    clear HFi HX HMe HI HWk hkE HR5 Hw5 hlt hi0 hz0 hz1 hz2 HO4 HPk HPm
    go_wp2_with fail
    clear hlt' HML
    have HWs:Hid (Ws w5.heap.size XX wr (Y av (k+1) cv) wl):=HWs'
    clear HWs'
    generalize wr=VV at *
    go_loopw [89] (fun i wr=>∃ n:Nat,n<=pl.length/\i=O J n/\Hid (Below VV.heap.size VV wr)) (fun i _=>pl.length - (intOf i).toNat)
    case atStart=>exact⟨0,Nat.zero_le _,rfl,Below.refl _ _⟩
    case round =>
     obtain⟨n,hn,rfl,Hb⟩:=hrel
     by_cases hlt:n<pl.length
     ·obtain⟨g4,rfl,hr,hko,hmem⟩:=HPa.out n hlt
      obtain⟨pe,hpe⟩:∃ pe,pe=pl[n]:=⟨_,rfl⟩
      rw[<- hpe] at hr hko hmem
      clear hpe
      obtain⟨q,aK,cK⟩:=pe
      have lq:Hid (wr.rangeAt g4 (n*13) (q.enc aK cK)):=Dc hr Hb.out (cell_lt (hr 0 _ rfl))
      have HKo:Hid (KOwn VV w3.heap.size aK cK q.keys):=hko
      have Hq:Hid _:=HPs.out q hmem
      obtain⟨op,hop⟩:∃ o:Obj,o=.cells #[O J q.task,O J q.c.kind,O J q.c.a,O J q.c.b,O J q.c.time,O J q.c.bk,O J q.c.slot,O J q.fro,O J q.to,O J q.e,O J q.slot,O J q.n,Y aK q.keys.length cK] 78:=⟨_,rfl⟩
      have HP7:Hid ((wr.alloc op).heap[wr.heap.size]?=some op):=heap_alloc_new _ _
      have Hb7:Hid (Below VV.heap.size VV (wr.alloc op)):=Hb.out.alloc Hb.out.size op
      subst hop
      obtain⟨-,c7,c8,-,c1,hlp⟩:=Qu HP7.out
      have c5:(wr.alloc (.cells #[O J q.task,O J q.c.kind,O J q.c.a,O J q.c.b,O J q.c.time,O J q.c.bk,O J q.c.slot,O J q.fro,O J q.to,O J q.e,O J q.slot,O J q.n,Y aK q.keys.length cK] 78)).cell? ⟨wr.heap.size,5,none⟩=some (O J q.c.bk):=by rw[cell_of_block HP7.out];rfl
      clear hr hko hmem Hb
      by_cases h5:q.c.kind=5
      ·have n5:(q.c.kind==5)=true:=by simpa using h5
       obtain⟨hq1,hq2,hq5,-,hbk⟩:=Hq.out
       have hbk2:=hbk (.inr h5)
       have HKeys:Hid (q.keys=(chL (runW W0 (lm.take (q.to+1))).m q.c.bk.toNat).map (keyAt (runW W0 (lm.take (q.to+1))).m)):=hq5 h5
       have hto:q.to<lm.length:=by rw[hlml];exact hq2
       clear hq5 hbk h5 Hq hq2
       go_wp2_with (refine wl_P rfl _ rfl rfl lq.out ?_)
       clear c1 c5 c7 c8 n5 lq
       generalize World.alloc wr _=V8 at *
       generalize wr.heap.size=PB at *
       go_loopw [23,22] (fun i f wr=>∃ (t:Nat) (B:Bool),q.fro<=t/\t<=q.to+1/\i=O J t/\f=.bool B/\Hid (t=q.to+1->B=true)/\Hid (Below V8.heap.size V8 wr)) (fun i _ _=>q.to+1 - (intOf i).toNat)
       case atStart=>exact⟨q.fro,false,Nat.le_refl _,by omega,rfl,rfl,(fun e=>by omega),Below.refl _ _⟩
       case round =>
        obtain⟨t,B,ht1,ht2,rfl,rfl,HB,Hbt⟩:=hrel
        have hP:=(Hbt.out.block _ (lt_of_block HP7.out)).trans HP7.out
        obtain⟨-,c7,c8,-,c1,-⟩:=Qu hP
        have c5:wr.cell? ⟨PB,5,none⟩=some (O J q.c.bk):=by rw[cell_of_block hP];rfl
        by_cases hle:t<=q.to
        ·have hle':(t:Int)<=(q.to:Int):=by omega
         have hbV:Below VV.heap.size VV wr:=Hb7.out.trans (Hbt.out.mono Hb7.out.size)
         have hwl:t+1<wl.length:=by rw[HWl.out.1,HKm.out];omega
         obtain⟨g,cg,hv,hcg,lr,hans⟩:=(HWs.out.below hbV).at hwl
         rw[show wl.length=k+1 from HWl.out.1] at hv hcg
         injection hv with hv1 hv2 hv3
         subst hv1 hv3
         have hWt:=HWl.out.2 (t+1) hwl
         generalize wl[t+1]=we at lr hans hWt
         obtain⟨Wt,aSt,aHt,aFt,aLt,cSt,cHt,cFt,cLt,aTt,cTt⟩:=we
         have HWt:Hid (Wt=runW W0 (lm.take (t+1))):=hWt
         have HIt:Hid (WInv Wt):=by show WInv Wt;rw[HWt.out];exact O7 _ HI0.out
         have hnh:Wt.m.heads.length=W0.m.heads.length:=by rw[HWt.out];exact Wp _ HI0.out
         have lW:Hid (wr.rangeAt g ((t+1)*6) [Y aSt Wt.m.slots.length cSt,Y aHt Wt.m.heads.length cHt,Y aFt Wt.m.free.length cFt,Y aLt Wt.m.locks.length cLt,O J Wt.m.now,Y aTt Wt.ts.length cTt]):=lr
         obtain⟨L,hL⟩:∃ L,L=(chL Wt.m q.c.bk.toNat).map (keyAt Wt.m):=⟨_,rfl⟩
         have HKl:Hid (∀ V,Below wr.heap.size wr V->Calls Tryz.prog 52 #[.agg #[Y aSt Wt.m.slots.length cSt,Y aHt Wt.m.heads.length cHt,Y aFt Wt.m.free.length cFt,Y aLt Wt.m.locks.length cLt,O J Wt.m.now,Y aTt Wt.ts.length cTt],O J q.c.bk] V fun e w'=>∃ ao cap,e=.returned (.tuple #[Y ao L.length cap,.bool true])/\KOwn w' V.heap.size ao cap L/\Below V.heap.size V w'):=fun V hb=>by
          rw[hL]
          exact a2q HIt.out q.c.bk (by rw[hnh];exact hbk2) ((show WAns 0 wr (.agg #[Y aSt Wt.m.slots.length cSt,Y aHt Wt.m.heads.length cHt,Y aFt Wt.m.free.length cFt,Y aLt Wt.m.locks.length cLt,O J Wt.m.now,Y aTt Wt.ts.length cTt]) Wt from hans).below hb)
         have g0:wr.cell? ⟨g,(t+1)*6,none⟩=some (Y aSt Wt.m.slots.length cSt):=lr 0 _ rfl
         have g1:wr.cell? ⟨g,(t+1)*6+1,none⟩=some (Y aHt Wt.m.heads.length cHt):=lr 1 _ rfl
         have g2:wr.cell? ⟨g,(t+1)*6+2,none⟩=some (Y aFt Wt.m.free.length cFt):=lr 2 _ rfl
         have g3:wr.cell? ⟨g,(t+1)*6+3,none⟩=some (Y aLt Wt.m.locks.length cLt):=lr 3 _ rfl
         have g4':wr.cell? ⟨g,(t+1)*6+4,none⟩=some (O J Wt.m.now):=lr 4 _ rfl
         have g5:wr.cell? ⟨g,(t+1)*6+5,none⟩=some (Y aTt Wt.ts.length cTt):=lr 5 _ rfl
         have HLe:Hid (L.length<=1000):=by
          show _<=_
          rw[hL,List.length_map]
          exact Nat.le_trans (Lj HIt.out.okc (by omega)) (by omega)
         have HLk:Hid (t=q.to->L=q.keys):=fun e=>by rw[hL,HWt.out,HKeys.out,e]
         obtain⟨e1,e2⟩:=wrap_small (t:=t) (Nat.le_trans hle (Nat.le_trans (Nat.le_of_lt hto) (Nat.le_trans hm1 (by decide))))
         have e4:t+1<k+1:=by rw[HKm.out];exact Nat.succ_lt_succ (Nat.lt_of_le_of_lt hle hto)
         have e3:((t+1:Nat):Int)<((k+1:Nat):Int):=Int.ofNat_lt.2 e4
         have e5:t<k:=Nat.lt_of_succ_lt_succ e4
         have e6:(t:Int)<(k:Int):=Int.ofNat_lt.2 e5
         have e7:(0:Int)<=(t:Int)+1:=Int.le_trans (Int.natCast_nonneg t) (Int.le_of_lt (Int.lt_succ _))
         clear lr hans hWt hnh hL hv2 hbV hwl hP
         go_wp2_with fail
         go_region_with (go_at_call 52;refine(HKl.out _ (by exact⟨rfl,rfl,rfl,Nat.le_refl _,fun _ _=>rfl⟩)).mono ?_;rintro e w9 ⟨ao,ca,rfl,hko,hb9⟩)
         all_goals
          have HKr:Hid (KRow w9 ao ca L):=hko.row HLe.out
          have Hb9:Hid (Below V8.heap.size V8 w9):=Hbt.out.trans (Below.mono (show Below wr.heap.size wr w9 from ⟨hb9.os,hb9.tape,hb9.output,hb9.size,hb9.block⟩) Hbt.out.size)
          have hP9:=(Hb9.out.block _ (lt_of_block HP7.out)).trans HP7.out
          have d12:w9.cell? ⟨PB,12,none⟩=some (Y aK q.keys.length cK):=by rw[cell_of_block hP9];rfl
          clear hko hb9 hP9 HKl lW c1 c5 c7 c8 e1 e2 e3 e4 e5 e6 e7 g0 g1 g2 g3 g4' g5
          cases B
          ·have HKq:Hid (KRow w9 aK cK q.keys):=by
            have h:=(HKo.out.below (Hb7.out.trans (Hb9.out.mono Hb7.out.size))).row
            exact h (by rw[HKeys.out,List.length_map];exact Nat.le_trans (Lj (O7 _ HI0.out).okc (by rw[Wp _ HI0.out];omega)) (by omega))
           go_wp2_with fail
           refine(Zj ao aK ca cK L q.keys w9 HKr.out HKq.out).mono ?_
           rintro e w11 ⟨B2,rfl,hB2,hb11⟩
           have HB2:Hid (t+1=q.to+1->B2=true):=fun e=>hB2 (HLk.out (by omega))
           have Hb11:Hid (Below V8.heap.size V8 w11):=Hb9.out.trans (hb11.mono Hb9.out.size)
           clear hB2 hb11 d12 HKr HKq HLk HB
           go_wp2
           go_roundw
           case rel=>exact⟨t+1,B2,by omega,by omega,by go_num,rfl,HB2,Hb11⟩
           case measure=>simp[intOf];omega
          ·have HB2:Hid (t+1=q.to+1->true=true):=fun _=>rfl
           clear HKr HLk HB d12
           go_wp2
           go_roundw
           case rel=>exact⟨t+1,true,by omega,by omega,by go_num,rfl,HB2,Hb9⟩
           case measure=>simp[intOf];omega
        ·have hle':¬ ((t:Int)<=(q.to:Int)):=by omega
         have hB:=HB.out (by omega)
         subst hB
         have HbE:Hid (Below VV.heap.size VV wr):=Hb7.out.trans (Hbt.out.mono Hb7.out.size)
         clear HB hP
         go_wp2
         go_roundw
         case rel=>exact⟨n+1,by omega,by go_num,HbE⟩
         case measure=>simp[intOf];omega
      ·have n5:(q.c.kind==5)=false:=by simpa using h5
       by_cases h4:q.c.kind=4
       ·have n4:(q.c.kind==4)=true:=by simpa using h4
        obtain⟨hq1,hq2,-,hq4,hbk⟩:=Hq.out
        have hbk2:=hbk (.inl h4)
        have HU:Hid (∀ x∈chL (runW W0 (lm.take (q.to+1))).m q.c.bk.toNat,(runW W0 (lm.take q.fro)).m.now<(A8 (runW W0 (lm.take (q.to+1))).m x).unt):=hq4 h4
        have hto:q.to<lm.length:=by rw[hlml];exact hq2
        clear hq4 hbk h4 h5 Hq hq2
        go_wp2_with (refine wl_P rfl _ rfl rfl lq.out ?_)
        clear lq c1 c5 n5 n4
        generalize World.alloc wr _=V8 at *
        generalize wr.heap.size=PB at *
        have hwl1:q.fro<wl.length:=by rw[HWl.out.1,HKm.out];omega
        have hwl2:q.to+1<wl.length:=by rw[HWl.out.1,HKm.out];omega
        obtain⟨g,cg,hv,hcg,lr,hans⟩:=(HWs.out.below Hb7.out).at hwl1
        obtain⟨g',cg',hv',-,lr',hans'⟩:=(HWs.out.below Hb7.out).at hwl2
        rw[show wl.length=k+1 from HWl.out.1] at hv hcg hv'
        injection hv with hv1 hv2 hv3
        subst hv1 hv3
        injection hv' with hw1 hw2 hw3
        cases hw1
        have hWa:=HWl.out.2 q.fro hwl1
        have hWb:=HWl.out.2 (q.to+1) hwl2
        generalize wl[q.fro]=wa at lr hans hWa
        generalize wl[q.to+1]=wb at lr' hans' hWb
        obtain⟨Wa,aSa,aHa,aFa,aLa,cSa,cHa,cFa,cLa,aTa,cTa⟩:=wa
        obtain⟨Wb,aSb,aHb,aFb,aLb,cSb,cHb,cFb,cLb,aTb,cTb⟩:=wb
        have HWa:Hid (Wa=runW W0 (lm.take q.fro)):=hWa
        have HWb:Hid (Wb=runW W0 (lm.take (q.to+1))):=hWb
        have HAa:Hid (WAns 0 V8 (.agg #[Y aSa Wa.m.slots.length cSa,Y aHa Wa.m.heads.length cHa,Y aFa Wa.m.free.length cFa,Y aLa Wa.m.locks.length cLa,O J Wa.m.now,Y aTa Wa.ts.length cTa]) Wa):=hans
        have HAb:Hid (WAns 0 V8 (.agg #[Y aSb Wb.m.slots.length cSb,Y aHb Wb.m.heads.length cHb,Y aFb Wb.m.free.length cFb,Y aLb Wb.m.locks.length cLb,O J Wb.m.now,Y aTb Wb.ts.length cTb]) Wb):=hans'
        have f0:V8.cell? ⟨g,q.fro*6,none⟩=some (Y aSa Wa.m.slots.length cSa):=lr 0 _ rfl
        have f1:V8.cell? ⟨g,q.fro*6+1,none⟩=some (Y aHa Wa.m.heads.length cHa):=lr 1 _ rfl
        have f2:V8.cell? ⟨g,q.fro*6+2,none⟩=some (Y aFa Wa.m.free.length cFa):=lr 2 _ rfl
        have f3:V8.cell? ⟨g,q.fro*6+3,none⟩=some (Y aLa Wa.m.locks.length cLa):=lr 3 _ rfl
        have f4:V8.cell? ⟨g,q.fro*6+4,none⟩=some (O J Wa.m.now):=lr 4 _ rfl
        have f5:V8.cell? ⟨g,q.fro*6+5,none⟩=some (Y aTa Wa.ts.length cTa):=lr 5 _ rfl
        have g0:V8.cell? ⟨g,(q.to+1)*6,none⟩=some (Y aSb Wb.m.slots.length cSb):=lr' 0 _ rfl
        have g1:V8.cell? ⟨g,(q.to+1)*6+1,none⟩=some (Y aHb Wb.m.heads.length cHb):=lr' 1 _ rfl
        have g2:V8.cell? ⟨g,(q.to+1)*6+2,none⟩=some (Y aFb Wb.m.free.length cFb):=lr' 2 _ rfl
        have g3:V8.cell? ⟨g,(q.to+1)*6+3,none⟩=some (Y aLb Wb.m.locks.length cLb):=lr' 3 _ rfl
        have g4':V8.cell? ⟨g,(q.to+1)*6+4,none⟩=some (O J Wb.m.now):=lr' 4 _ rfl
        have g5:V8.cell? ⟨g,(q.to+1)*6+5,none⟩=some (Y aTb Wb.ts.length cTb):=lr' 5 _ rfl
        obtain⟨e1,e2⟩:=wrap_small (t:=q.to) (Nat.le_trans (Nat.le_of_lt hto) (Nat.le_trans hm1 (by decide)))
        have e4:q.to+1<k+1:=by rw[HKm.out];exact Nat.succ_lt_succ hto
        have e5:q.to<k:=Nat.lt_of_succ_lt_succ e4
        have e6:(q.to:Int)<(k:Int):=Int.ofNat_lt.2 e5
        have e10:q.fro<=k:=Nat.le_trans hq1 (Nat.le_of_lt e5)
        have e9:(q.fro:Int)<(k:Int)+1:=lt_int1 e10
        have hgl:g<V8.heap.size:=cell_lt f0
        have lra:=lr
        have lrb:=lr'
        clear lr lr' hans hans' hWa hWb hv2 hw2 hw3 hwl1 hwl2
        have HIa:Hid (WInv Wa):=by show WInv Wa;rw[HWa.out];exact O7 _ HI0.out
        have HIb:Hid (WInv Wb):=by show WInv Wb;rw[HWb.out];exact O7 _ HI0.out
        have hna:Wa.m.heads.length=W0.m.heads.length:=by rw[HWa.out];exact Wp _ HI0.out
        have hnb:Wb.m.heads.length=W0.m.heads.length:=by rw[HWb.out];exact Wp _ HI0.out
        obtain⟨LA,hLA⟩:∃ LA,LA=Jj Wa.m:=⟨_,rfl⟩
        obtain⟨LB,hLB⟩:∃ LB,LB=Jj Wb.m:=⟨_,rfl⟩
        obtain⟨SA,hSA⟩:∃ SA,SA=chL Wa.m q.c.bk.toNat:=⟨_,rfl⟩
        have nA:LA.length<=12:=by rw[hLA];exact Qg HIa.out.okc
        have nB:LB.length<=12:=by rw[hLB];exact Qg HIb.out.okc
        have HSw:Hid (∀ f∈LA,f.unt<=Wa.m.now->f.slot∈SA->f ∉ LB):=fun f h1 h2 h3 h4=>by
         rw[hLA] at h1
         rw[hLB] at h4
         rw[hSA] at h3
         exact a0s HIa.out.okc HIb.out.okc (by omega) (by omega) (by rw[HWa.out,HWb.out];exact HU.out) h1 h2 h3 h4
        have HFa:Hid (∀ V,Below V8.heap.size V8 V->Calls Tryz.prog 55 #[.agg #[Y aSa Wa.m.slots.length cSa,Y aHa Wa.m.heads.length cHa,Y aFa Wa.m.free.length cFa,Y aLa Wa.m.locks.length cLa,O J Wa.m.now]] V fun e w'=>∃ ao cap,e=.returned (.tuple #[Y ao LA.length cap,O J 0])/\FRow w' ao cap LA/\Below V.heap.size V w'):=fun V hb=>by
         obtain⟨lt,A,-⟩:=(HAa.out.below hb).parts
         have h:=Qh Wa.m aSa aHa aFa aLa cSa cHa cFa cLa V A
         rw[show Eu Wa.m=LA by rw[hLA];exact Ti HIa.out.okc,show chkC Wa.m=0 from HIa.out.chain] at h
         refine h.mono ?_
         rintro e w' ⟨ao,cap,rfl,hO,hb⟩
         exact⟨ao,cap,rfl,FRow.own hO nA,hb⟩
        have HFb:Hid (∀ V,Below V8.heap.size V8 V->Calls Tryz.prog 55 #[.agg #[Y aSb Wb.m.slots.length cSb,Y aHb Wb.m.heads.length cHb,Y aFb Wb.m.free.length cFb,Y aLb Wb.m.locks.length cLb,O J Wb.m.now]] V fun e w'=>∃ ao cap,e=.returned (.tuple #[Y ao LB.length cap,O J 0])/\FRow w' ao cap LB/\Below V.heap.size V w'):=fun V hb=>by
         obtain⟨lt,A,-⟩:=(HAb.out.below hb).parts
         have h:=Qh Wb.m aSb aHb aFb aLb cSb cHb cFb cLb V A
         rw[show Eu Wb.m=LB by rw[hLB];exact Ti HIb.out.okc,show chkC Wb.m=0 from HIb.out.chain] at h
         refine h.mono ?_
         rintro e w' ⟨ao,cap,rfl,hO,hb⟩
         exact⟨ao,cap,rfl,FRow.own hO nB,hb⟩
        have HSl:Hid (∀ V,Below V8.heap.size V8 V->Calls Tryz.prog 53 #[.agg #[Y aSa Wa.m.slots.length cSa,Y aHa Wa.m.heads.length cHa,Y aFa Wa.m.free.length cFa,Y aLa Wa.m.locks.length cLa,O J Wa.m.now],O J q.c.bk] V fun e w'=>∃ ao cap,e=.returned (.tuple #[Y ao SA.length cap,O J 0])/\IRow w' ao cap SA/\Below V.heap.size V w'):=fun V hb=>by
         obtain⟨lt,A,-⟩:=(HAa.out.below hb).parts
         have h:=Ky Wa.m aSa aHa aFa aLa cSa cHa cFa cLa q.c.bk V A
         have h2:=Rh HIa.out.okc (b:=q.c.bk) (by omega)
         rw[h2.1,h2.2,<- hSA] at h
         exact h
        have HP8:Hid (V8.heap[PB]?=some (.cells #[O J q.task,O J q.c.kind,O J q.c.a,O J q.c.b,O J q.c.time,O J q.c.bk,O J q.c.slot,O J q.fro,O J q.to,O J q.e,O J q.slot,O J q.n,Y aK q.keys.length cK] 78 (0,0))):=HP7
        have HAr:Hid (V8.rangeAt g (q.fro*6) [Y aSa Wa.m.slots.length cSa,Y aHa Wa.m.heads.length cHa,Y aFa Wa.m.free.length cFa,Y aLa Wa.m.locks.length cLa,O J Wa.m.now,Y aTa Wa.ts.length cTa]):=lra
        have HBr:Hid (V8.rangeAt g ((q.to+1)*6) [Y aSb Wb.m.slots.length cSb,Y aHb Wb.m.heads.length cHb,Y aFb Wb.m.free.length cFb,Y aLb Wb.m.locks.length cLb,O J Wb.m.now,Y aTb Wb.ts.length cTb]):=lrb
        clear hLA hLB hSA hna hnb lra lrb HAa HAb HIa HIb HU HWa HWb f0 f1 f2 f3 f4 f5 g0 g1 g2 g3 g4' g5
        refine V3 (by kernel_rfl) Ns rfl 11 rfl [132,133,134,135,136,137,138,139,140,141,142] rfl 26 27 (by decide) (by kernel_rfl) 4 10 (by decide) (by decide) (by kernel_rfl) (by kernel_rfl) (by kernel_rfl) (by kernel_rfl) (val12 g PB (k+1) cv q.fro q.to (.agg #[Y aSa Wa.m.slots.length cSa,Y aHa Wa.m.heads.length cHa,Y aFa Wa.m.free.length cFa,Y aLa Wa.m.locks.length cLa,O J Wa.m.now,Y aTa Wa.ts.length cTa]) (.agg #[Y aSb Wb.m.slots.length cSb,Y aHb Wb.m.heads.length cHb,Y aFb Wb.m.free.length cFb,Y aLb Wb.m.locks.length cLb,O J Wb.m.now,Y aTb Wb.ts.length cTb])) (.cells #[Y none 0 0,Y none 0 0,Y none 0 0,Y none 0 0,O J 0,Y none 0 0] 28 (0,0)) (.cells #[Y aSa Wa.m.slots.length cSa,Y aHa Wa.m.heads.length cHa,Y aFa Wa.m.free.length cFa,Y aLa Wa.m.locks.length cLa,O J Wa.m.now,Y aTa Wa.ts.length cTa] 28 (0,0)) (.cells #[Y aSb Wb.m.slots.length cSb,Y aHb Wb.m.heads.length cHb,Y aFb Wb.m.free.length cFb,Y aLb Wb.m.locks.length cLb,O J Wb.m.now,Y aTb Wb.ts.length cTb] 28 (0,0)) ?_ ?_ ?_ ?_ ?_ ?_
        ·intro i hi x W hb hout hpre
         have x14:x 14=Y (some ⟨g,0,none⟩) (k+1) cv:=hout 14 (by decide) (by decide) (by decide)
         have x21:x 21=.pointer (some ⟨PB,0,none⟩):=hout 21 (by decide) (by decide) (by decide)
         have hP:=(hb.block _ (lt_of_block HP8.out)).trans HP8.out
         obtain⟨-,u7,u8,-,-,-⟩:=Qu hP
         obtain rfl|rfl|rfl|rfl|rfl|rfl|rfl|rfl|rfl|rfl|rfl:i=0\/i=1\/i=2\/i=3\/i=4\/i=5\/i=6\/i=7\/i=8\/i=9\/i=10:=by omega
         ·exact Ap rfl (Ae rfl) (v:=Y (some ⟨g,0,none⟩) (k+1) cv) (w':=W) (by simp[execOp,go_sem,(show (Ns x).tmps[14]?.getD undef=_ from x14)]) ⟨rfl,rfl⟩
         ·exact Ap rfl (Ae rfl) (v:=.pointer (some ⟨PB,7,none⟩)) (w':=W) (by simp[execOp,go_sem,(show (Ns x).tmps[21]?.getD undef=_ from x21),Addr.add]) ⟨rfl,rfl⟩
         ·have p1:x 133=.pointer (some ⟨PB,7,none⟩):=hpre 1 (by decide) (by kernel_rfl)
          exact Ap rfl (Ae rfl) (v:=O J q.fro) (w':=W) (by simp[execOp,go_sem,(show (Ns x).tmps[133]?.getD undef=_ from p1),u7]) ⟨rfl,rfl⟩
         ·have p0:x 132=Y (some ⟨g,0,none⟩) (k+1) cv:=hpre 0 (by decide) (by kernel_rfl)
          have p2:x 134=O J q.fro:=hpre 2 (by decide) (by kernel_rfl)
          exact Ap rfl (Ae rfl) (v:=.pointer (some ⟨g,q.fro*6,none⟩)) (w':=W) (by simp[execOp,go_sem,(show (Ns x).tmps[132]?.getD undef=_ from p0),(show (Ns x).tmps[134]?.getD undef=_ from p2),e9,Addr.add_mid]) ⟨rfl,rfl⟩
         ·have p3:x 135=.pointer (some ⟨g,q.fro*6,none⟩):=hpre 3 (by decide) (by kernel_rfl)
          exact Nq rfl rfl 28 (.tmp 135) rfl g (q.fro*6) p3 [Y aSa Wa.m.slots.length cSa,Y aHa Wa.m.heads.length cHa,Y aFa Wa.m.free.length cFa,Y aLa Wa.m.locks.length cLa,O J Wa.m.now,Y aTa Wa.ts.length cTa] _ (Dc HAr.out hb (cell_lt (HAr.out 0 _ rfl))) Tryz.underlying28 rfl (by kernel_rfl) ⟨rfl,rfl⟩
         ·exact Ap rfl (Ae rfl) (v:=Y (some ⟨g,0,none⟩) (k+1) cv) (w':=W) (by simp[execOp,go_sem,(show (Ns x).tmps[14]?.getD undef=_ from x14)]) ⟨rfl,rfl⟩
         ·exact Ap rfl (Ae rfl) (v:=.pointer (some ⟨PB,8,none⟩)) (w':=W) (by simp[execOp,go_sem,(show (Ns x).tmps[21]?.getD undef=_ from x21),Addr.add]) ⟨rfl,rfl⟩
         ·have p6:x 138=.pointer (some ⟨PB,8,none⟩):=hpre 6 (by decide) (by kernel_rfl)
          exact Ap rfl (Ae rfl) (v:=O J q.to) (w':=W) (by simp[execOp,go_sem,(show (Ns x).tmps[138]?.getD undef=_ from p6),u8]) ⟨rfl,rfl⟩
         ·have p7:x 139=O J q.to:=hpre 7 (by decide) (by kernel_rfl)
          exact Ap rfl (Ae rfl) (v:=O J (q.to+1:Nat)) (w':=W) (by simp[execOp,go_sem,(show (Ns x).tmps[139]?.getD undef=_ from p7),e2]) ⟨rfl,rfl⟩
         ·have p5:x 137=Y (some ⟨g,0,none⟩) (k+1) cv:=hpre 5 (by decide) (by kernel_rfl)
          have p8:x 140=O J (q.to+1:Nat):=hpre 8 (by decide) (by kernel_rfl)
          exact Ap rfl (Ae rfl) (v:=.pointer (some ⟨g,(q.to+1)*6,none⟩)) (w':=W) (by simp[execOp,go_sem,(show (Ns x).tmps[137]?.getD undef=_ from p5),(show (Ns x).tmps[140]?.getD undef=_ from p8),e6,nn1,Addr.add_mid]) ⟨rfl,rfl⟩
         ·have p9:x 141=.pointer (some ⟨g,(q.to+1)*6,none⟩):=hpre 9 (by decide) (by kernel_rfl)
          exact Nq rfl rfl 28 (.tmp 141) rfl g ((q.to+1)*6) p9 [Y aSb Wb.m.slots.length cSb,Y aHb Wb.m.heads.length cHb,Y aFb Wb.m.free.length cFb,Y aLb Wb.m.locks.length cLb,O J Wb.m.now,Y aTb Wb.ts.length cTb] _ (Dc HBr.out hb (cell_lt (HBr.out 0 _ rfl))) Tryz.underlying28 rfl (by kernel_rfl) ⟨rfl,rfl⟩
        ·intro x W
         exact Ap rfl (Ae rfl) (v:=.pointer (some ⟨W.heap.size,0,none⟩)) (w':=W.alloc (.cells #[Y none 0 0,Y none 0 0,Y none 0 0,Y none 0 0,O J 0,Y none 0 0] 28 (0,0))) (by simp only[execOp];simp[go_sem]) ⟨rfl,rfl⟩
        ·intro x W
         exact Ap rfl (Ae rfl) (v:=.pointer (some ⟨W.heap.size,0,none⟩)) (w':=W.alloc (.cells #[Y none 0 0,Y none 0 0,Y none 0 0,Y none 0 0,O J 0,Y none 0 0] 28 (0,0))) (by simp only[execOp];simp[go_sem]) ⟨rfl,rfl⟩
        ·intro x W B hx hv hz
         exact L8 rfl rfl 28 (.tmp 26) (.tmp 136) rfl B 0 #[Y aSa Wa.m.slots.length cSa,Y aHa Wa.m.heads.length cHa,Y aFa Wa.m.free.length cFa,Y aLa Wa.m.locks.length cLa,O J Wa.m.now,Y aTa Wa.ts.length cTa] hx hv (Bz hz (by simp)) (by kernel_rfl) (by kernel_rfl) ⟨rfl,Tz hz rfl⟩
        ·intro x W B hx hv hz
         exact L8 rfl rfl 28 (.tmp 27) (.tmp 142) rfl B 0 #[Y aSb Wb.m.slots.length cSb,Y aHb Wb.m.heads.length cHb,Y aFb Wb.m.free.length cFb,Y aLb Wb.m.locks.length cLb,O J Wb.m.now,Y aTb Wb.ts.length cTb] hx hv (Bz hz (by simp)) (by kernel_rfl) (by kernel_rfl) ⟨rfl,Tz hz rfl⟩
        intro x W A B hb hout hv eA eB zA zB hAB bA bB
        have HbW:Hid (Below V8.heap.size V8 W):=hb
        have HbA:Hid (W.heap[A]?=some (.cells #[Y aSa Wa.m.slots.length cSa,Y aHa Wa.m.heads.length cHa,Y aFa Wa.m.free.length cFa,Y aLa Wa.m.locks.length cLa,O J Wa.m.now,Y aTa Wa.ts.length cTa] 28 (0,0))):=bA
        have HbB:Hid (W.heap[B]?=some (.cells #[Y aSb Wb.m.slots.length cSb,Y aHb Wb.m.heads.length cHb,Y aFb Wb.m.free.length cFb,Y aLb Wb.m.locks.length cLb,O J Wb.m.now,Y aTb Wb.ts.length cTb] 28 (0,0))):=bB
        clear hb hv zA zB bA bB HAr HBr e1 e2 e4 e5 e6 e9 e10 HP7 HKo c7 c8 hcg hgl
        have o0:=hout 0 (by decide) (by decide) (by decide)
        conv at o0=>rhs;whnf
        have o1:=hout 1 (by decide) (by decide) (by decide)
        conv at o1=>rhs;whnf
        have o2:=hout 2 (by decide) (by decide) (by decide)
        conv at o2=>rhs;whnf
        have o3:=hout 3 (by decide) (by decide) (by decide)
        conv at o3=>rhs;whnf
        have o4:=hout 4 (by decide) (by decide) (by decide)
        conv at o4=>rhs;whnf
        have o5:=hout 5 (by decide) (by decide) (by decide)
        conv at o5=>rhs;whnf
        have o6:=hout 6 (by decide) (by decide) (by decide)
        conv at o6=>rhs;whnf
        have o7:=hout 7 (by decide) (by decide) (by decide)
        conv at o7=>rhs;whnf
        have o8:=hout 8 (by decide) (by decide) (by decide)
        conv at o8=>rhs;whnf
        have o9:=hout 9 (by decide) (by decide) (by decide)
        conv at o9=>rhs;whnf
        have o10:=hout 10 (by decide) (by decide) (by decide)
        conv at o10=>rhs;whnf
        have o11:=hout 11 (by decide) (by decide) (by decide)
        conv at o11=>rhs;whnf
        have o12:=hout 12 (by decide) (by decide) (by decide)
        conv at o12=>rhs;whnf
        have o13:=hout 13 (by decide) (by decide) (by decide)
        conv at o13=>rhs;whnf
        have o14:=hout 14 (by decide) (by decide) (by decide)
        conv at o14=>rhs;whnf
        have o15:=hout 15 (by decide) (by decide) (by decide)
        conv at o15=>rhs;whnf
        have o16:=hout 16 (by decide) (by decide) (by decide)
        conv at o16=>rhs;whnf
        have o17:=hout 17 (by decide) (by decide) (by decide)
        conv at o17=>rhs;whnf
        have o18:=hout 18 (by decide) (by decide) (by decide)
        conv at o18=>rhs;whnf
        have o19:=hout 19 (by decide) (by decide) (by decide)
        conv at o19=>rhs;whnf
        have o20:=hout 20 (by decide) (by decide) (by decide)
        conv at o20=>rhs;whnf
        have o21:=hout 21 (by decide) (by decide) (by decide)
        conv at o21=>rhs;whnf
        have o22:=hout 22 (by decide) (by decide) (by decide)
        conv at o22=>rhs;whnf
        have o23:=hout 23 (by decide) (by decide) (by decide)
        conv at o23=>rhs;whnf
        have o24:=hout 24 (by decide) (by decide) (by decide)
        conv at o24=>rhs;whnf
        have o25:=hout 25 (by decide) (by decide) (by decide)
        conv at o25=>rhs;whnf
        have o28:=hout 28 (by decide) (by decide) (by decide)
        conv at o28=>rhs;whnf
        have o29:=hout 29 (by decide) (by decide) (by decide)
        conv at o29=>rhs;whnf
        have o30:=hout 30 (by decide) (by decide) (by decide)
        conv at o30=>rhs;whnf
        have o31:=hout 31 (by decide) (by decide) (by decide)
        conv at o31=>rhs;whnf
        have o32:=hout 32 (by decide) (by decide) (by decide)
        conv at o32=>rhs;whnf
        have o33:=hout 33 (by decide) (by decide) (by decide)
        conv at o33=>rhs;whnf
        have o34:=hout 34 (by decide) (by decide) (by decide)
        conv at o34=>rhs;whnf
        have o35:=hout 35 (by decide) (by decide) (by decide)
        conv at o35=>rhs;whnf
        have o36:=hout 36 (by decide) (by decide) (by decide)
        conv at o36=>rhs;whnf
        have o37:=hout 37 (by decide) (by decide) (by decide)
        conv at o37=>rhs;whnf
        have o38:=hout 38 (by decide) (by decide) (by decide)
        conv at o38=>rhs;whnf
        have o39:=hout 39 (by decide) (by decide) (by decide)
        conv at o39=>rhs;whnf
        have o40:=hout 40 (by decide) (by decide) (by decide)
        conv at o40=>rhs;whnf
        have o41:=hout 41 (by decide) (by decide) (by decide)
        conv at o41=>rhs;whnf
        have o42:=hout 42 (by decide) (by decide) (by decide)
        conv at o42=>rhs;whnf
        have o43:=hout 43 (by decide) (by decide) (by decide)
        conv at o43=>rhs;whnf
        have o44:=hout 44 (by decide) (by decide) (by decide)
        conv at o44=>rhs;whnf
        have o45:=hout 45 (by decide) (by decide) (by decide)
        conv at o45=>rhs;whnf
        have o46:=hout 46 (by decide) (by decide) (by decide)
        conv at o46=>rhs;whnf
        have o47:=hout 47 (by decide) (by decide) (by decide)
        conv at o47=>rhs;whnf
        have o48:=hout 48 (by decide) (by decide) (by decide)
        conv at o48=>rhs;whnf
        have o49:=hout 49 (by decide) (by decide) (by decide)
        conv at o49=>rhs;whnf
        have o50:=hout 50 (by decide) (by decide) (by decide)
        conv at o50=>rhs;whnf
        have o51:=hout 51 (by decide) (by decide) (by decide)
        conv at o51=>rhs;whnf
        have o52:=hout 52 (by decide) (by decide) (by decide)
        conv at o52=>rhs;whnf
        have o53:=hout 53 (by decide) (by decide) (by decide)
        conv at o53=>rhs;whnf
        have o54:=hout 54 (by decide) (by decide) (by decide)
        conv at o54=>rhs;whnf
        have o55:=hout 55 (by decide) (by decide) (by decide)
        conv at o55=>rhs;whnf
        have o56:=hout 56 (by decide) (by decide) (by decide)
        conv at o56=>rhs;whnf
        have o57:=hout 57 (by decide) (by decide) (by decide)
        conv at o57=>rhs;whnf
        have o58:=hout 58 (by decide) (by decide) (by decide)
        conv at o58=>rhs;whnf
        have o59:=hout 59 (by decide) (by decide) (by decide)
        conv at o59=>rhs;whnf
        have o60:=hout 60 (by decide) (by decide) (by decide)
        conv at o60=>rhs;whnf
        have o61:=hout 61 (by decide) (by decide) (by decide)
        conv at o61=>rhs;whnf
        have o62:=hout 62 (by decide) (by decide) (by decide)
        conv at o62=>rhs;whnf
        have o63:=hout 63 (by decide) (by decide) (by decide)
        conv at o63=>rhs;whnf
        have o64:=hout 64 (by decide) (by decide) (by decide)
        conv at o64=>rhs;whnf
        have o65:=hout 65 (by decide) (by decide) (by decide)
        conv at o65=>rhs;whnf
        have o66:=hout 66 (by decide) (by decide) (by decide)
        conv at o66=>rhs;whnf
        have o67:=hout 67 (by decide) (by decide) (by decide)
        conv at o67=>rhs;whnf
        have o68:=hout 68 (by decide) (by decide) (by decide)
        conv at o68=>rhs;whnf
        have o69:=hout 69 (by decide) (by decide) (by decide)
        conv at o69=>rhs;whnf
        have o70:=hout 70 (by decide) (by decide) (by decide)
        conv at o70=>rhs;whnf
        have o71:=hout 71 (by decide) (by decide) (by decide)
        conv at o71=>rhs;whnf
        have o72:=hout 72 (by decide) (by decide) (by decide)
        conv at o72=>rhs;whnf
        have o73:=hout 73 (by decide) (by decide) (by decide)
        conv at o73=>rhs;whnf
        have o74:=hout 74 (by decide) (by decide) (by decide)
        conv at o74=>rhs;whnf
        have o75:=hout 75 (by decide) (by decide) (by decide)
        conv at o75=>rhs;whnf
        have o76:=hout 76 (by decide) (by decide) (by decide)
        conv at o76=>rhs;whnf
        have o77:=hout 77 (by decide) (by decide) (by decide)
        conv at o77=>rhs;whnf
        have o78:=hout 78 (by decide) (by decide) (by decide)
        conv at o78=>rhs;whnf
        have o79:=hout 79 (by decide) (by decide) (by decide)
        conv at o79=>rhs;whnf
        have o80:=hout 80 (by decide) (by decide) (by decide)
        conv at o80=>rhs;whnf
        have o81:=hout 81 (by decide) (by decide) (by decide)
        conv at o81=>rhs;whnf
        have o82:=hout 82 (by decide) (by decide) (by decide)
        conv at o82=>rhs;whnf
        have o83:=hout 83 (by decide) (by decide) (by decide)
        conv at o83=>rhs;whnf
        have o84:=hout 84 (by decide) (by decide) (by decide)
        conv at o84=>rhs;whnf
        have o85:=hout 85 (by decide) (by decide) (by decide)
        conv at o85=>rhs;whnf
        have o86:=hout 86 (by decide) (by decide) (by decide)
        conv at o86=>rhs;whnf
        have o87:=hout 87 (by decide) (by decide) (by decide)
        conv at o87=>rhs;whnf
        have o88:=hout 88 (by decide) (by decide) (by decide)
        conv at o88=>rhs;whnf
        have o89:=hout 89 (by decide) (by decide) (by decide)
        conv at o89=>rhs;whnf
        have o90:=hout 90 (by decide) (by decide) (by decide)
        conv at o90=>rhs;whnf
        have o91:=hout 91 (by decide) (by decide) (by decide)
        conv at o91=>rhs;whnf
        have o92:=hout 92 (by decide) (by decide) (by decide)
        conv at o92=>rhs;whnf
        have o93:=hout 93 (by decide) (by decide) (by decide)
        conv at o93=>rhs;whnf
        have o94:=hout 94 (by decide) (by decide) (by decide)
        conv at o94=>rhs;whnf
        have o95:=hout 95 (by decide) (by decide) (by decide)
        conv at o95=>rhs;whnf
        unfold Ns
        simp only[eA,eB,o0,o1,o2,o3,o4,o5,o6,o7,o8,o9,o10,o11,o12,o13,o14,o15,o16,o17,o18,o19,o20,o21,o22,o23,o24,o25,o28,o29,o30,o31,o32,o33,o34,o35,o36,o37,o38,o39,o40,o41,o42,o43,o44,o45,o46,o47,o48,o49,o50,o51,o52,o53,o54,o55,o56,o57,o58,o59,o60,o61,o62,o63,o64,o65,o66,o67,o68,o69,o70,o71,o72,o73,o74,o75,o76,o77,o78,o79,o80,o81,o82,o83,o84,o85,o86,o87,o88,o89,o90,o91,o92,o93,o94,o95]
        simp only[show (Value.tuple #[])=undef from rfl]
        clear hout
        have l5a:Hid (W.rangeAt A 0 [Y aSa Wa.m.slots.length cSa,Y aHa Wa.m.heads.length cHa,Y aFa Wa.m.free.length cFa,Y aLa Wa.m.locks.length cLa,O J Wa.m.now]):=Aw HbA.out rfl
        go_wp2_with (have h9:=l5a.out;refine wl_5 rfl _ rfl rfl h9 ?_;clear h9 l5a)
        refine(HFa.out W HbW.out).mono ?_
        rintro e w9 ⟨ao,ca,rfl,hF9,hb9⟩
        have HF9:Hid (FRow w9 ao ca LA):=hF9
        have Hb9:Hid (Below V8.heap.size V8 w9):=HbW.out.trans (hb9.mono HbW.out.size)
        have HA9:Hid (w9.heap[A]?=some (.cells #[Y aSa Wa.m.slots.length cSa,Y aHa Wa.m.heads.length cHa,Y aFa Wa.m.free.length cFa,Y aLa Wa.m.locks.length cLa,O J Wa.m.now,Y aTa Wa.ts.length cTa] 28 (0,0))):=(hb9.block _ (lt_of_block HbA.out)).trans HbA.out
        have hB9:=(hb9.block _ (lt_of_block HbB.out)).trans HbB.out
        have l5b:Hid (w9.rangeAt B 0 [Y aSb Wb.m.slots.length cSb,Y aHb Wb.m.heads.length cHb,Y aFb Wb.m.free.length cFb,Y aLb Wb.m.locks.length cLb,O J Wb.m.now]):=Aw hB9 rfl
        have hcA:=HF9.out.le
        clear hF9 hb9 hB9 HbA HbB HbW HFa
        go_wp2_with (have h9:=l5b.out;refine wl_5 rfl _ rfl rfl h9 ?_;clear h9 l5b)
        refine(HFb.out w9 Hb9.out).mono ?_
        rintro e w10 ⟨bo,cb,rfl,hF10,hb10⟩
        have HG10:Hid (FRow w10 bo cb LB):=hF10
        have HF10:Hid (FRow w10 ao ca LA):=HF9.out.below hb10
        have Hb10:Hid (Below V8.heap.size V8 w10):=Hb9.out.trans (hb10.mono Hb9.out.size)
        have HA10:Hid (w10.heap[A]?=some (.cells #[Y aSa Wa.m.slots.length cSa,Y aHa Wa.m.heads.length cHa,Y aFa Wa.m.free.length cFa,Y aLa Wa.m.locks.length cLa,O J Wa.m.now,Y aTa Wa.ts.length cTa] 28 (0,0))):=(hb10.block _ (lt_of_block HA9.out)).trans HA9.out
        have l5c:Hid (w10.rangeAt A 0 [Y aSa Wa.m.slots.length cSa,Y aHa Wa.m.heads.length cHa,Y aFa Wa.m.free.length cFa,Y aLa Wa.m.locks.length cLa,O J Wa.m.now]):=Aw HA10.out rfl
        have hP10:=(Hb10.out.block _ (lt_of_block HP8.out)).trans HP8.out
        have c5:w10.cell? ⟨PB,5,none⟩=some (O J q.c.bk):=by rw[cell_of_block hP10];rfl
        have hcB:=HG10.out.le
        clear hF10 hb10 hP10 HF9 Hb9 HA9 HFb
        go_wp2_with (have h9:=l5c.out;refine wl_5 rfl _ rfl rfl h9 ?_;clear h9 l5c)
        refine(HSl.out w10 Hb10.out).mono ?_
        rintro e w11 ⟨so,cs,rfl,hI11,hb11⟩
        have HI11:Hid (IRow w11 so cs SA):=hI11
        have HG11:Hid (FRow w11 bo cb LB):=HG10.out.below hb11
        have HF11:Hid (FRow w11 ao ca LA):=HF10.out.below hb11
        have Hb11:Hid (Below VV.heap.size VV w11):=Hb7.out.trans ((Hb10.out.trans (hb11.mono Hb10.out.size)).mono Hb7.out.size)
        have HA11:Hid (w11.heap[A]?=some (.cells #[Y aSa Wa.m.slots.length cSa,Y aHa Wa.m.heads.length cHa,Y aFa Wa.m.free.length cFa,Y aLa Wa.m.locks.length cLa,O J Wa.m.now,Y aTa Wa.ts.length cTa] 28 (0,0))):=(hb11.block _ (lt_of_block HA10.out)).trans HA10.out
        have hcS:=HI11.out.le
        clear hI11 hb11 HG10 HF10 Hb10 HA10 HSl c5 HP8 Hb7
        go_wp2_with fail
        go_loopw [176] (fun i wr=>∃ j:Nat,j<=LA.length/\i=O J j/\Hid (Below w11.heap.size w11 wr)) (fun i _=>LA.length - (intOf i).toNat)
        case atStart=>exact⟨0,Nat.zero_le _,rfl,Below.refl _ _⟩
        case round =>
         obtain⟨j,hj,rfl,Hbj⟩:=hrel
         by_cases hlj:j<LA.length
         ·rcases (HF11.out.below Hbj.out).at_ with h0|⟨bf,of,rfl,hc⟩
          ·omega
          obtain⟨c0,c1,c2,c3⟩:=hc j hlj
          have Hno:Hid (LA[j].unt<=Wa.m.now->LA[j].slot∈SA->LA[j] ∉ LB):=HSw.out _ (List.getElem_mem hlj)
          generalize LA[j]=y at c0 c1 c2 c3 Hno
          obtain⟨oq,hoq⟩:∃ o:Obj,o=.cells #[O J y.a,O J y.b,O J y.slot,O J y.unt] 61:=⟨_,rfl⟩
          obtain⟨V2,hV2⟩:∃ V2,V2=wr.alloc oq:=⟨_,rfl⟩
          have hbq:Below w11.heap.size w11 V2:=by rw[hV2];exact Hbj.out.alloc Hbj.out.size _
          have HQ2:V2.heap[wr.heap.size]?=some oq:=by rw[hV2];exact heap_alloc_new _ _
          have hA2:=(hbq.block _ (lt_of_block HA11.out)).trans HA11.out
          subst hoq
          have q0:V2.cell? ⟨wr.heap.size,0,none⟩=some (O J y.a):=by rw[cell_of_block HQ2];rfl
          have q1:V2.cell? ⟨wr.heap.size,1,none⟩=some (O J y.b):=by rw[cell_of_block HQ2];rfl
          have q2:V2.cell? ⟨wr.heap.size,2,none⟩=some (O J y.slot):=by rw[cell_of_block HQ2];rfl
          have q3:V2.cell? ⟨wr.heap.size,3,none⟩=some (O J y.unt):=by rw[cell_of_block HQ2];rfl
          have a4:V2.cell? ⟨A,4,none⟩=some (O J Wa.m.now):=by rw[cell_of_block hA2];rfl
          have HV2:Hid (V2=wr.alloc (.cells #[O J y.a,O J y.b,O J y.slot,O J y.unt] 61)):=hV2
          have HI2:Hid (IRow V2 so cs SA):=HI11.out.below hbq
          have HG2:Hid (FRow V2 bo cb LB):=HG11.out.below hbq
          have Hbq:Hid (Below w11.heap.size w11 V2):=hbq
          clear hc HQ2 hA2 hV2 hbq Hbj
          by_cases hu:y.unt<=Wa.m.now
          ·go_wp2_with (rw[<- HV2.out];clear HV2)
           refine(Jg so cs SA y.slot V2 HI2.out).mono ?_
           rintro e w12 ⟨rfl,rfl⟩
           cases hs:hasB SA y.slot
           ·clear hs Hno
            go_wp2
            go_roundw
            case rel=>exact⟨j+1,by omega,by go_num,Hbq⟩
            case measure=>simp[intOf];omega
           ·have Hf:Hid (hasF LB y=false):=by
             show _=_
             cases h:hasF LB y
             ·rfl
             ·exact absurd ((hasF_iff _ _).1 h) (Hno.out hu ((Jv _ _).1 hs))
            clear hs Hno
            go_wp2_with fail
            refine(Ue bo cb LB y V2 (Nat.le_trans nB (by decide)) HG2.out).mono ?_
            rw[Hf.out]
            rintro e w13 ⟨rfl,hb13⟩
            have Hb13:Hid (Below w11.heap.size w11 w13):=Hbq.out.trans (hb13.mono Hbq.out.size)
            clear hb13 q0 q1 q2 q3 a4
            go_wp2
            go_roundw
            case rel=>exact⟨j+1,by omega,by go_num,Hb13⟩
            case measure=>simp[intOf];omega
          ·clear Hno
           go_wp2_with (rw[<- HV2.out];clear HV2)
           go_roundw
           case rel=>exact⟨j+1,by omega,by go_num,Hbq⟩
           case measure=>simp[intOf];omega
         ·have Hbe:Hid (Below VV.heap.size VV wr):=Hb11.out.trans (Hbj.out.mono Hb11.out.size)
          go_wp2
          go_roundw
          case rel=>exact⟨n+1,by omega,by go_num,Hbe⟩
          case measure=>simp[intOf];omega
       ·have n4:(q.c.kind==4)=false:=by simpa using h4
        clear h5 h4
        go_wp2_with (refine wl_P rfl _ rfl rfl lq.out ?_)
        go_roundw
        case rel=>exact⟨n+1,by omega,by go_num,Hb7⟩
        case measure=>simp[intOf];omega
     ·go_wp2
      go_ret
      exact⟨rfl,HBe.out.trans (Hb.out.mono HBe.out.size)⟩
theorem storyLists_any(many buckets tasks:Int)(l:List Pk)(aP:Option Addr)(cP:Nat)(w:World)(r:PRow w aP cP l) :
  Calls Tryz.prog 12 #[O J many,O J buckets,O J tasks,Y aP l.length cP] w fun e w'=>e=.returned (.bool true)/\Below w.heap.size w w':=by
 by_cases h:l.length<=300
 ·exact Yj many buckets tasks l aP cP w r l.length (Nat.le_refl _) (.inl ⟨by omega,rfl⟩)
 ·exact Yj many buckets tasks l aP cP w r 300 (by omega) (.inr ⟨by omega,rfl⟩)
end
end Go.Proofs.YthhgoenomehobaaGreat.mm
