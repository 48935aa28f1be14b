/- Parts. -/
import Derived.Test.YthhgoenomehobaaGreatS42
import Derived.Test.YthhgoenomehobaaGreatS43
namespace Go.Proofs.YthhgoenomehobaaGreat.mm
set_option maxRecDepth 100000
set_option linter.unusedVariables false
open Go.Value renaming int → O, slice → Y
open Go.IntKind renaming i64 → J
section
open Go.ChangeShapes Go.WideShapes Go.ChangeAt Go.RowKit Go.Joins Go.Deep Go.Maps
def upTo(W:Wd)(k:Nat):Wd:=(List.range k).foldl Ed W
theorem Q8(W:Wd)(k:Nat):upTo W (k+1)=Ed (upTo W k) k:=by
 unfold upTo
 rw[List.range_succ,List.foldl_append]
 rfl
theorem Zt{W:Wd}{i j:Nat}(h:i≠j):(Ed W i).ts[j]?=W.ts[j]?:=by
 unfold Ed
 split
 ·rfl
 ·split
  ·simp[h]
  ·rfl
theorem a2b(W:Wd):∀ k j,k<=j->(upTo W k).ts[j]?=W.ts[j]?
 | 0,_,_=>rfl
 | k+1,j,h=>by rw[Q8,Zt (by omega),a2b W k j (by omega)]
def Lp(k:Nat):Pk:=⟨k,true,false,⟨0,0,0,0,0,0⟩⟩
theorem Z9{W:Wd}{k:Nat}{t:Tk}(h:W.ts[k]?=some t)(hb:t.busy=true):doE W (Lp k)=0/\doW W (Lp k)=Ed W k:=by
 have hk:=(List.getElem?_eq_some_iff.1 h).1
 have ht:H7 W (Lp k)=t:=by
  unfold H7 Lp
  simp[List.getD_eq_getElem?_getD,h]
 constructor
 ·unfold doE
  rw[if_neg (by simp[Lp]),if_neg (by simp[Lp];omega),if_pos (by rfl),ht,if_pos hb]
 ·unfold doW Ed
  rw[if_neg (by simp[Lp]),if_pos (by rfl),ht,h]
  simp[hb,Lp]
theorem Pg{W:Wd}{k:Nat}{t:Tk}(h:W.ts[k]?=some t)(hb:t.busy=false):Ed W k=W:=by
 unfold Ed
 rw[h]
 simp[hb]
theorem Xz{W:Wd}(I:Bi W):∀ k,Bi (upTo W k)
 | 0=>I
 | k+1=>by
  rw[Q8]
  have I':=Xz I k
  cases h:(upTo W k).ts[k]? with
  | none=>unfold Ed;rw[h];exact I'
  | some t =>
   cases hb:t.busy
   ·rw[Pg h hb];exact I'
   ·have:=Z9 h hb
    rw[<- this.2]
    exact Nw I' this.1
theorem rounds_succ(W:Wd)(n:Nat):rounds (n+1) W=upTo (rounds n W) (rounds n W).ts.length:=by
 rw[Og n 1 W]
 rfl
def Ri(W:Wd)(k:Nat):Bool:=(W.ts.take k).any (·.busy)
theorem a5u{W:Wd}{k:Nat}{t:Tk}(h:W.ts[k]?=some t):Ri W (k+1)=(Ri W k || t.busy):=by
 have hk:=(List.getElem?_eq_some_iff.1 h).1
 have he:=(List.getElem?_eq_some_iff.1 h).2
 unfold Ri
 rw[List.take_succ_eq_append_getElem hk,List.any_append,he]
 simp
theorem a5t{W:Wd}(h:Ri W W.ts.length=false):Idle W:=by
 intro t ht
 unfold Ri at h
 rw[List.take_length] at h
 have:=List.any_eq_false.1 h t ht
 simpa using this
theorem a7d{W:Wd}(h:Idle W)(k:Nat):Ri W k=false:=by
 unfold Ri
 rw[List.any_eq_false]
 intro t ht
 rw[h t (List.mem_of_mem_take ht)]
 simp
theorem Zc{W:Wd}(h:Idle W):∀ k,k<=W.ts.length->upTo W k=W
 | 0,_=>rfl
 | k+1,hk=>by
  rw[Q8,Zc h k (by omega)]
  have e:W.ts[k]?=some (W.ts[k]'(by omega)):=List.getElem?_eq_getElem _
  exact Pg e (h _ (List.getElem_mem _))
def EndP(a0 b0:Nat)(w:World)(r:Nat)(W:Wd)(e:Ending)(w':World):Prop :=
 ∃ v q a b,q<=r/\Idle (rounds q W)/\e=.returned (.tuple #[v,.bool true])/\WIn a b w' v (rounds q W)/\b<=w'.heap.size/\((a=a0/\b=b0)\/w.heap.size<=a)/\Below w.heap.size w w'
set_option maxHeartbeats 4000000 in
theorem b5f{W0:Wd}(I:Bi W0)(n r:Nat)(hr:r<n)(hn:n<=1000)(hE:Idle (rounds r W0))(a0 b0:Nat)(w:World)(v:Value)(hv:WIn a0 b0 w v W0)(hb0:b0<=w.heap.size) :
  Calls Tryz.prog 36 #[v,O J (n:Int)] w (EndP a0 b0 w r W0):=by
 obtain⟨aS,aH,aF,aL,cS,cH,cF,cL,aT,cT,lt,rfl,-⟩:=hv w (fun _ _ _=>rfl)
 have HI0:Hid (Bi W0):=I
 have HE:Hid (Idle (rounds r W0)):=hE
 obtain⟨ox,hox⟩:∃ o:Obj,o=.cells #[Y aS W0.m.slots.length cS,Y aH W0.m.heads.length cH,Y aF W0.m.free.length cF,Y aL W0.m.locks.length cL,O J W0.m.now,Y aT W0.ts.length cT] 28:=⟨_,rfl⟩
 obtain⟨oy,hoy⟩:∃ o:Obj,o=.cells #[Y none 0 0,Y none 0 0,Y none 0 0,Y none 0 0,O J 0,Y none 0 0] 28:=⟨_,rfl⟩
 have b1:Below w.heap.size w ((w.alloc ox).alloc oy):=below_alloc2 w ox oy
 have HX0:Hid (((w.alloc ox).alloc oy).heap[w.heap.size]?=some ox):=by show _=_;rw[Below.heap_alloc _ _ _ (by simp),heap_alloc_new]
 have HY0:Hid (((w.alloc ox).alloc oy).heap[w.heap.size+1]?=some oy):=by
  have:=heap_alloc_new (w.alloc ox) oy
  rwa [show (w.alloc ox).heap.size=w.heap.size+1 by simp] at this
 have HV0:Hid (WIn a0 b0 ((w.alloc ox).alloc oy) (.agg #[Y aS W0.m.slots.length cS,Y aH W0.m.heads.length cH,Y aF W0.m.free.length cF,Y aL W0.m.locks.length cL,O J W0.m.now,Y aT W0.ts.length cT]) W0):=hv.same fun k h1 h2=>b1.block k (by omega)
 have Hb1:Hid (Below w.heap.size w ((w.alloc ox).alloc oy)):=b1
 have HZ1:Hid (b0<=((w.alloc ox).alloc oy).heap.size/\((a0=a0/\b0=b0)\/w.heap.size+1<a0)):=⟨by simp;omega,.inl ⟨rfl,rfl⟩⟩
 have Hb0:Hid (b0<=w.heap.size):=hb0
 have hrn:r<n:=hr
 clear hv hE I b1 hb0
 go_enter Tryz.func36,Tryz.ntmps36
 go_wp2_with fail
 rw[<- hox,<- hoy]
 generalize (w.alloc ox).alloc oy=W1 at *
 subst hox hoy
 go_loopw [12] (fun i wr=>∃ (q:Nat) (a b:Nat) (aS aH aF aL:Option Addr) (cS cH cF cL:Nat) (aT:Option Addr) (cT:Nat),q<=r/\i=O J q/\Hid (Bi (rounds q W0))/\Hid (wr.heap[w.heap.size]?=some (.cells #[Y aS (rounds q W0).m.slots.length cS,Y aH (rounds q W0).m.heads.length cH,Y aF (rounds q W0).m.free.length cF,Y aL (rounds q W0).m.locks.length cL,O J (rounds q W0).m.now,Y aT (rounds q W0).ts.length cT] 28 (0,0)))/\Hid (wr.heap[w.heap.size+1]?=some (.cells #[Y none 0 0,Y none 0 0,Y none 0 0,Y none 0 0,O J 0,Y none 0 0] 28 (0,0)))/\Hid (WIn a b wr (.agg #[Y aS (rounds q W0).m.slots.length cS,Y aH (rounds q W0).m.heads.length cH,Y aF (rounds q W0).m.free.length cF,Y aL (rounds q W0).m.locks.length cL,O J (rounds q W0).m.now,Y aT (rounds q W0).ts.length cT]) (rounds q W0))/\Hid (b<=wr.heap.size/\((a=a0/\b=b0)\/w.heap.size+1<a))/\Hid (Below w.heap.size w wr)) (fun i _=>n - (intOf i).toNat)
 case atStart=>exact⟨0,a0,b0,aS,aH,aF,aL,cS,cH,cF,cL,aT,cT,Nat.zero_le _,rfl,HI0,HX0,HY0,HV0,⟨HZ1.out.1,.inl ⟨rfl,rfl⟩⟩,Hb1⟩
 case round =>
  clear HI0 HX0 HY0 HV0 HZ1 Hb1
  obtain⟨q,a,b,aS,aH,aF,aL,cS,cH,cF,cL,aT,cT,hq,rfl,HI,HX,HY,HV,HZ,Hb⟩:=hrel
  have hqn:(q:Int)<(n:Int):=by omega
  have hn5:(rounds q W0).ts.length<=5:=HI.out.nt.2
  have HNx:Hid (rounds (q+1) W0=upTo (rounds q W0) (rounds q W0).ts.length):=rounds_succ W0 q
  have HEq:Hid (q=r->Idle (rounds q W0)):=fun e=>by rw[e];exact HE.out
  generalize hWq:rounds q W0=W at *
  have HWq:Hid (rounds q W0=W):=hWq
  clear hWq
  obtain⟨x0,x1,x2,x3,x4,x5,xs⟩:=Ew HX.out
  clear HE
  go_wp2_with fail
  have HU0:Hid (wr.heap[w.heap.size]?=some (.cells #[Y aS (upTo W 0).m.slots.length cS,Y aH (upTo W 0).m.heads.length cH,Y aF (upTo W 0).m.free.length cF,Y aL (upTo W 0).m.locks.length cL,O J (upTo W 0).m.now,Y aT (upTo W 0).ts.length cT] 28 (0,0))):=HX
  have HV1:Hid (WIn a b wr (.agg #[Y aS (upTo W 0).m.slots.length cS,Y aH (upTo W 0).m.heads.length cH,Y aF (upTo W 0).m.free.length cF,Y aL (upTo W 0).m.locks.length cL,O J (upTo W 0).m.now,Y aT (upTo W 0).ts.length cT]) (upTo W 0)):=HV
  clear x0 x1 x2 x3 x4 x5 xs
  go_loopw [6,17] (fun c i wr=>∃ (k:Nat) (a1 b1:Nat) (aS1 aH1 aF1 aL1:Option Addr) (cS1 cH1 cF1 cL1:Nat) (aT1:Option Addr) (cT1:Nat),k<=W.ts.length/\i=O J k/\c=.bool (Ri W k)/\Hid (wr.heap[w.heap.size]?=some (.cells #[Y aS1 (upTo W k).m.slots.length cS1,Y aH1 (upTo W k).m.heads.length cH1,Y aF1 (upTo W k).m.free.length cF1,Y aL1 (upTo W k).m.locks.length cL1,O J (upTo W k).m.now,Y aT1 (upTo W k).ts.length cT1] 28 (0,0)))/\Hid (wr.heap[w.heap.size+1]?=some (.cells #[Y none 0 0,Y none 0 0,Y none 0 0,Y none 0 0,O J 0,Y none 0 0] 28 (0,0)))/\Hid (WIn a1 b1 wr (.agg #[Y aS1 (upTo W k).m.slots.length cS1,Y aH1 (upTo W k).m.heads.length cH1,Y aF1 (upTo W k).m.free.length cF1,Y aL1 (upTo W k).m.locks.length cL1,O J (upTo W k).m.now,Y aT1 (upTo W k).ts.length cT1]) (upTo W k))/\Hid (b1<=wr.heap.size/\((a1=a0/\b1=b0)\/w.heap.size+1<a1))/\Hid (WIn a b wr (.agg #[Y aS W.m.slots.length cS,Y aH W.m.heads.length cH,Y aF W.m.free.length cF,Y aL W.m.locks.length cL,O J W.m.now,Y aT W.ts.length cT]) W/\b<=wr.heap.size)/\Hid (Below w.heap.size w wr)) (fun _ i _=>W.ts.length - (intOf i).toNat)
  case atStart=>exact⟨0,a,b,aS,aH,aF,aL,cS,cH,cF,cL,aT,cT,Nat.zero_le _,rfl,rfl,HU0,HY,HV1,HZ,⟨HV.out,HZ.out.1⟩,Hb⟩
  case round =>
   have HZo:Hid ((a=a0/\b=b0)\/w.heap.size+1<a):=HZ.out.2
   clear HU0 HV1 HX HY HV HZ Hb
   obtain⟨k,a1,b1,aS1,aH1,aF1,aL1,cS1,cH1,cF1,cL1,aT1,cT1,hk,rfl,rfl,HX,HY,HV1,HZ1,HV,Hb⟩:=hrel
   by_cases hlt:k<W.ts.length
   ·obtain⟨lt,A,hi,hts,hT,hTh⟩:=(HV.out.1 wr (fun _ _ _=>rfl)).parts
    have hlen:lt.length=W.ts.length:=by rw[hts,List.length_map]
    obtain⟨bt,ot,rfl⟩:=hT.addr (by omega)
    have hmt:=hT.max
    have hle:=hT.le
    have hrg:=hT.range (show k<lt.length by omega)
    have HtW:Hid (W.ts[k]?=some (lt[k]'(by omega)).1):=by show _=_;rw[hts];simp[hlen,hlt]
    generalize (lt[k]'(by omega)).1=t at *
    generalize (lt[k]'(by omega)).2=tv at *
    have hle2:W.ts.length<=cT:=by omega
    have HRg:Hid (wr.rangeAt bt (ot+k*16) (t.enc tv)):=hrg
    obtain⟨aK,cK,aHh,cHh⟩:=tv
    obtain⟨bz,tf,th⟩:=t
    have Hk1:Hid (k+1<=W.ts.length):=hlt
    clear A hi hts hT hTh hrg hlen hle
    have HtU:Hid ((upTo W k).ts[k]?=some ⟨bz,tf,th⟩):=(a2b W k k (Nat.le_refl _)).trans HtW.out
    have HBs:Hid (Ri W (k+1)=(Ri W k || bz)):=a5u HtW.out
    have HUs:Hid (upTo W (k+1)=Ed (upTo W k) k):=Q8 W k
    have HIk:Hid (Bi (upTo W k)):=Xz HI.out k
    obtain⟨oT,hoT⟩:∃ o:Obj,o=.cells #[.bool bz,O J tf.c.kind,O J tf.c.a,O J tf.c.b,O J tf.c.time,O J tf.c.bk,O J tf.c.slot,O J tf.pl,O J tf.cur,O J tf.prev,O J tf.slot,O J tf.n,Y aK tf.keys.length cK,.bool tf.done,O J tf.e,Y aHh th.length cHh] 49:=⟨_,rfl⟩
    have bT:Below wr.heap.size wr (wr.alloc oT):=Ad _ _
    have HBx:Hid ((wr.alloc oT).heap[wr.heap.size]?=some oT):=heap_alloc_new _ _
    have HX2:Hid ((wr.alloc oT).heap[w.heap.size]?=some (.cells #[Y aS1 (upTo W k).m.slots.length cS1,Y aH1 (upTo W k).m.heads.length cH1,Y aF1 (upTo W k).m.free.length cF1,Y aL1 (upTo W k).m.locks.length cL1,O J (upTo W k).m.now,Y aT1 (upTo W k).ts.length cT1] 28 (0,0))):=(bT.block _ (lt_of_block HX.out)).trans HX.out
    have HY2:Hid ((wr.alloc oT).heap[w.heap.size+1]?=some (.cells #[Y none 0 0,Y none 0 0,Y none 0 0,Y none 0 0,O J 0,Y none 0 0] 28 (0,0))):=(bT.block _ (lt_of_block HY.out)).trans HY.out
    have HV2:Hid (WIn a1 b1 (wr.alloc oT) (.agg #[Y aS1 (upTo W k).m.slots.length cS1,Y aH1 (upTo W k).m.heads.length cH1,Y aF1 (upTo W k).m.free.length cF1,Y aL1 (upTo W k).m.locks.length cL1,O J (upTo W k).m.now,Y aT1 (upTo W k).ts.length cT1]) (upTo W k)):=HV1.out.same fun j h1 h2=>bT.block j (by have:=HZ1.out.1;omega)
    have HZ2:Hid (b1<=(wr.alloc oT).heap.size/\((a1=a0/\b1=b0)\/w.heap.size+1<a1)):=⟨by have:=HZ1.out.1;simp;omega,HZ1.out.2⟩
    have HO2:Hid (WIn a b (wr.alloc oT) (.agg #[Y aS W.m.slots.length cS,Y aH W.m.heads.length cH,Y aF W.m.free.length cF,Y aL W.m.locks.length cL,O J W.m.now,Y (some ⟨bt,ot,none⟩) W.ts.length cT]) W/\b<=(wr.alloc oT).heap.size):=⟨HV.out.1.same fun j h1 h2=>bT.block j (by have:=HV.out.2;omega),by have:=HV.out.2;simp;omega⟩
    have Hb2:Hid (Below w.heap.size w (wr.alloc oT)):=Hb.out.alloc Hb.out.size oT
    clear HX HY HV1 HZ1 HV Hb bT
    subst hoT
    obtain⟨t0,t1,t2,t3,t4,t5,t6,t7,t8,t9,t10,t11,t12,t13,t14,t15,ts⟩:=b3d HBx.out
    clear t1 t2 t3 t4 t5 t6 t7 t8 t9 t10 t11 t12 t13 t14 t15 HBx
    cases bz
    ·skip
     have HUe:Hid (upTo W (k+1)=upTo W k):=HUs.out.trans (Pg HtU.out rfl)
     have HBe:Hid (Ri W (k+1)=Ri W k):=by show _=_;rw[HBs.out];simp
     have HRg2:Hid (wr.rangeAt bt (ot+k*16) ((⟨false,tf,th⟩:Tk).enc ⟨aK,cK,aHh,cHh⟩)):=HRg
     go_wp2_with (refine a9m rfl _ rfl rfl HRg2.out ?_)
     go_roundw
     case rel=>exact⟨k+1,a1,b1,aS1,aH1,aF1,aL1,cS1,cH1,cF1,cL1,aT1,cT1,Hk1.out,by go_num,by rw[HBe.out],by rw[HUe.out];exact HX2,HY2,by rw[HUe.out];exact HV2,HZ2,HO2,Hb2⟩
     case measure=>have:=Hk1.out;simp[intOf];omega
    ·have Hd:Hid (doE (upTo W k) (Lp k)=0/\doW (upTo W k) (Lp k)=upTo W (k+1)):=by
      have h:=Z9 HtU.out rfl
      rw[<- HUs.out] at h
      exact h
     have HBe:Hid (Ri W (k+1)=true):=by show _=_;rw[HBs.out];simp
     have l6:Hid ((wr.alloc (.cells #[.bool true,O J tf.c.kind,O J tf.c.a,O J tf.c.b,O J tf.c.time,O J tf.c.bk,O J tf.c.slot,O J tf.pl,O J tf.cur,O J tf.prev,O J tf.slot,O J tf.n,Y aK tf.keys.length cK,.bool tf.done,O J tf.e,Y aHh th.length cHh] 49)).rangeAt w.heap.size 0 [Y aS1 (upTo W k).m.slots.length cS1,Y aH1 (upTo W k).m.heads.length cH1,Y aF1 (upTo W k).m.free.length cF1,Y aL1 (upTo W k).m.locks.length cL1,O J (upTo W k).m.now,Y aT1 (upTo W k).ts.length cT1]):=Bz HX2.out rfl
     have hxz:w.heap.size+1<(wr.alloc (.cells #[.bool true,O J tf.c.kind,O J tf.c.a,O J tf.c.b,O J tf.c.time,O J tf.c.bk,O J tf.c.slot,O J tf.pl,O J tf.cur,O J tf.prev,O J tf.slot,O J tf.n,Y aK tf.keys.length cK,.bool tf.done,O J tf.e,Y aHh th.length cHh] 49)).heap.size:=lt_of_block HY2.out
     go_wp2_with (first|refine a9m rfl _ rfl rfl HRg.out ?_|refine Ky rfl _ rfl rfl l6.out ?_)
     clear l6 t0 ts HRg
     generalize World.alloc wr _=V2 at *
     refine(Zk HIk.out (x:=Lp k) (HV2.out V2 (fun _ _ _=>rfl))).mono ?_
     rw[Hd.out.1,if_pos rfl,Hd.out.2]
     rintro e w3 ⟨v3,rfl,hv3,hb3⟩
     generalize hU:upTo W (k+1)=U at *
     have HU:Hid (upTo W (k+1)=U):=hU
     clear hU
     obtain⟨aS2,aH2,aF2,aL2,cS2,cH2,cF2,cL2,aT2,cT2,lt2,rfl,-⟩:=id hv3
     obtain⟨oq,hoq⟩:∃ o:Obj,o=.cells #[Y aS2 U.m.slots.length cS2,Y aH2 U.m.heads.length cH2,Y aF2 U.m.free.length cF2,Y aL2 U.m.locks.length cL2,O J U.m.now,Y aT2 U.ts.length cT2] 28:=⟨_,rfl⟩
     have hz3:=hb3.size
     have b4:Below V2.heap.size V2 (w3.alloc oq):=hb3.alloc hb3.size oq
     have HY4:Hid ((w3.alloc oq).heap[w3.heap.size]?=some oq):=heap_alloc_new _ _
     have hX4:(w3.alloc oq).heap[w.heap.size]?=some (.cells #[Y aS1 (upTo W k).m.slots.length cS1,Y aH1 (upTo W k).m.heads.length cH1,Y aF1 (upTo W k).m.free.length cF1,Y aL1 (upTo W k).m.locks.length cL1,O J (upTo W k).m.now,Y aT1 (upTo W k).ts.length cT1] 28 (0,0)):=(b4.block _ (lt_of_block HX2.out)).trans HX2.out
     have hYY:(w3.alloc oq).heap[w.heap.size+1]?=some (.cells #[Y none 0 0,Y none 0 0,Y none 0 0,Y none 0 0,O J 0,Y none 0 0] 28 (0,0)):=(b4.block _ (lt_of_block HY2.out)).trans HY2.out
     have hW4:WIn V2.heap.size w3.heap.size (w3.alloc oq) (.agg #[Y aS2 U.m.slots.length cS2,Y aH2 U.m.heads.length cH2,Y aF2 U.m.free.length cF2,Y aL2 U.m.locks.length cL2,O J U.m.now,Y aT2 U.ts.length cT2]) U:=hv3.wIn.same fun j h1 h2=>(Ad _ _).block j h2
     have Hb4:Hid (Below w.heap.size w (w3.alloc oq)):=Hb2.out.trans (b4.mono Hb2.out.size)
     have t8:Hid ((w3.alloc oq).there w.heap.size 0 6):=Dn hX4 (by simp)
     obtain⟨W5,hW5⟩:∃ W5,W5=(w3.alloc oq).setCells w.heap.size 0 [Y aS2 U.m.slots.length cS2,Y aH2 U.m.heads.length cH2,Y aF2 U.m.free.length cF2,Y aL2 U.m.locks.length cL2,O J U.m.now,Y aT2 U.ts.length cT2]:=⟨_,rfl⟩
     have ho5:∀ j,j≠w.heap.size->W5.heap[j]?=(w3.alloc oq).heap[j]?:=fun j hj=>by rw[hW5];exact Ae hj _ _ _
     have HX5:Hid (W5.heap[w.heap.size]?=some (.cells #[Y aS2 U.m.slots.length cS2,Y aH2 U.m.heads.length cH2,Y aF2 U.m.free.length cF2,Y aL2 U.m.locks.length cL2,O J U.m.now,Y aT2 U.ts.length cT2] 28 (0,0))):=by show _=_;rw[hW5];exact D5 hX4 rfl
     have HY5:Hid (W5.heap[w.heap.size+1]?=some (.cells #[Y none 0 0,Y none 0 0,Y none 0 0,Y none 0 0,O J 0,Y none 0 0] 28 (0,0))):=(ho5 _ (by omega)).trans hYY
     have hs5:W5.heap.size=w3.heap.size+1:=by rw[hW5,setCells_size];simp
     have HW5:Hid (WIn V2.heap.size w3.heap.size W5 (.agg #[Y aS2 U.m.slots.length cS2,Y aH2 U.m.heads.length cH2,Y aF2 U.m.free.length cF2,Y aL2 U.m.locks.length cL2,O J U.m.now,Y aT2 U.ts.length cT2]) U):=hW4.same fun j h1 h2=>ho5 j (by omega)
     have HZ5:Hid (w3.heap.size<=W5.heap.size/\((V2.heap.size=a0/\w3.heap.size=b0)\/w.heap.size+1<V2.heap.size)):=⟨by omega,.inr hxz⟩
     have HO5:Hid (WIn a b W5 (.agg #[Y aS W.m.slots.length cS,Y aH W.m.heads.length cH,Y aF W.m.free.length cF,Y aL W.m.locks.length cL,O J W.m.now,Y (some ⟨bt,ot,none⟩) W.ts.length cT]) W/\b<=W5.heap.size):=⟨HO2.out.1.same fun j h1 h2=>(ho5 j (by have:=HZo.out;have:=Hb0.out;omega)).trans (b4.block j (by have:=HO2.out.2;omega)),by have:=HO2.out.2;omega⟩
     have Hb5:Hid (Below w.heap.size w W5):=by show Below w.heap.size w W5;rw[hW5];exact Bq Hb4.out (Nat.le_refl _)
     subst hoq
     have l7:Hid ((w3.alloc (.cells #[Y aS2 U.m.slots.length cS2,Y aH2 U.m.heads.length cH2,Y aF2 U.m.free.length cF2,Y aL2 U.m.locks.length cL2,O J U.m.now,Y aT2 U.ts.length cT2] 28)).rangeAt w3.heap.size 0 [Y aS2 U.m.slots.length cS2,Y aH2 U.m.heads.length cH2,Y aF2 U.m.free.length cF2,Y aL2 U.m.locks.length cL2,O J U.m.now,Y aT2 U.ts.length cT2]):=Bz HY4.out rfl
     clear hX4 hYY hW4 Hb4 ho5 HY4 hv3 b4 hb3 HX2 HY2 HV2 HZ2 HO2 Hb2 hs5
     go_wp2_with (first|refine Ky rfl _ rfl rfl l7.out ?_|(refine Qd rfl _ _ rfl rfl rfl t8.out (by kernel_rfl) ?_;rw[<- hW5];clear hW5 t8 l7))
     go_roundw
     case rel=>exact⟨k+1,V2.heap.size,w3.heap.size,aS2,aH2,aF2,aL2,cS2,cH2,cF2,cL2,aT2,cT2,Hk1.out,by go_num,by rw[HBe.out],by rw[HU.out];exact HX5,HY5,by rw[HU.out];exact HW5,HZ5,HO5,Hb5⟩
     case measure=>have:=Hk1.out;simp[intOf];omega
   ·have hkE:k=W.ts.length:=by omega
    subst hkE
    cases hany:Ri W W.ts.length
    ·have HId:Hid (Idle W):=a5t hany
     have HUi:Hid (upTo W W.ts.length=W):=Zc HId.out _ (Nat.le_refl _)
     have l6:Hid (wr.rangeAt w.heap.size 0 [Y aS1 (upTo W W.ts.length).m.slots.length cS1,Y aH1 (upTo W W.ts.length).m.heads.length cH1,Y aF1 (upTo W W.ts.length).m.free.length cF1,Y aL1 (upTo W W.ts.length).m.locks.length cL1,O J (upTo W W.ts.length).m.now,Y aT1 (upTo W W.ts.length).ts.length cT1]):=Bz HX.out rfl
     have t6:Hid (wr.there (w.heap.size+1) 0 6):=Dn HY.out (by simp)
     generalize upTo W W.ts.length=U at *
     obtain⟨W5,hW5⟩:∃ W5,W5=wr.setCells (w.heap.size+1) 0 [Y aS1 U.m.slots.length cS1,Y aH1 U.m.heads.length cH1,Y aF1 U.m.free.length cF1,Y aL1 U.m.locks.length cL1,O J U.m.now,Y aT1 U.ts.length cT1]:=⟨_,rfl⟩
     have ho5:∀ j,j≠w.heap.size+1->W5.heap[j]?=wr.heap[j]?:=fun j hj=>by rw[hW5];exact Ae hj _ _ _
     have HX5:Hid (W5.heap[w.heap.size+1]?=some (.cells #[Y aS1 U.m.slots.length cS1,Y aH1 U.m.heads.length cH1,Y aF1 U.m.free.length cF1,Y aL1 U.m.locks.length cL1,O J U.m.now,Y aT1 U.ts.length cT1] 28 (0,0))):=by show _=_;rw[hW5];exact D5 HY.out rfl
     have hs5:W5.heap.size=wr.heap.size:=by rw[hW5,setCells_size]
     have HW5:Hid (WIn a1 b1 W5 (.agg #[Y aS1 U.m.slots.length cS1,Y aH1 U.m.heads.length cH1,Y aF1 U.m.free.length cF1,Y aL1 U.m.locks.length cL1,O J U.m.now,Y aT1 U.ts.length cT1]) U):=HV1.out.same fun j h1 h2=>ho5 j (by have:=HZ1.out.2;have:=Hb0.out;omega)
     have HZ5:Hid (b1<=W5.heap.size/\((a1=a0/\b1=b0)\/w.heap.size<=a1)):=⟨by have:=HZ1.out.1;omega,by rcases HZ1.out.2 with h|h;exact .inl h;exact .inr (by omega)⟩
     have Hb5:Hid (Below w.heap.size w W5):=by show Below w.heap.size w W5;rw[hW5];exact Bq Hb.out (by omega)
     clear ho5 hs5 HX HY HV1 HV HZ1 Hb hany
     go_wp2_with (first|refine Ky rfl _ rfl rfl l6.out ?_|(refine Qd rfl _ _ rfl rfl rfl t6.out (by kernel_rfl) ?_;rw[<- hW5];clear hW5 t6 l6))
     obtain⟨r0,r1,r2,r3,r4,r5,rs⟩:=Ew HX5.out
     refine bodyPost_ret (v:=.tuple #[.agg #[Y aS1 U.m.slots.length cS1,Y aH1 U.m.heads.length cH1,Y aF1 U.m.free.length cF1,Y aL1 U.m.locks.length cL1,O J U.m.now,Y aT1 U.ts.length cT1],.bool true]) (by simp[results,Tryz.results36,go_sem,r0,r1,r2,r3,r4,r5]) rfl ?_
     refine⟨_,q,a1,b1,hq,by rw[HWq.out];exact HId.out,rfl,?_,HZ5.out.1,HZ5.out.2,Hb5.out⟩
     rw[HWq.out,<- HUi.out]
     exact HW5.out
    ·have hqr:q<r:=by
      have:q≠r:=fun e=>by rw[a7d (HEq.out e)] at hany;cases hany
      omega
     have HI2:Hid (Bi (rounds (q+1) W0)):=by rw[HNx.out];exact Xz HI.out _
     clear hany
     go_wp2
     go_roundw
     case rel=>exact⟨q+1,a1,b1,aS1,aH1,aF1,aL1,cS1,cH1,cF1,cL1,aT1,cT1,by omega,by go_num,HI2,by rw[HNx.out];exact HX,HY,by rw[HNx.out];exact HV1,HZ1,Hb⟩
     case measure=>simp[intOf];omega
end
end Go.Proofs.YthhgoenomehobaaGreat.mm
