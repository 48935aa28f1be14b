/- Parts. -/
import Derived.Test.YthhgoenomehobaaGreatG48
import Derived.Test.YthhgoenomehobaaGreatG49
namespace Go.Proofs.YthhgoenomehobaaGreat.mm
set_option maxRecDepth 100000
set_option linter.unusedVariables false
open Go.Value renaming int → O, slice → Y
open Go.IntKind renaming i64 → J
section
open Go.ChangeShapes Go.WideShapes Go.ChangeAt Go.RowKit Go.Joins Go.Deep Go.Maps
theorem a2j{W:Wd}(h:Idle W):Fp W=W:=Uc h W.ts.length (Nat.le_refl _)
theorem Tc{W:Wd}(h:Idle W):∀ n,rounds n W=W
 | 0=>rfl
 | n+1=>by show rounds n (Fp W)=W;rw[a2j h];exact Tc h n
theorem Xr{W:Wd}{q r:Nat}(h:q<=r)(hi:Idle (rounds q W)):rounds r W=rounds q W:=by
 obtain⟨d,rfl⟩:∃ d,r=q+d:=⟨r - q,by omega⟩
 rw[Jb,Tc hi]
def Po(wr:World)(X k:Nat):Nat :=
 match wr.cell? ⟨X,5,none⟩ with
 | some (Y (some ad) _ _)=>(match wr.cell? ⟨ad.block,ad.off+k*16+15,none⟩ with|some (Y _ n _)=>n|_=>0)
 | _=>0
theorem FBox.task{w:World}{X Yq a b:Nat}{W:Wd}(h:FBox w X Yq a b W){k:Nat}{t:Tk}(hk:W.ts[k]?=some t) :
  ∃ bt ot aHh cHh cT,w.cell? ⟨X,5,none⟩=some (Y (some ⟨bt,ot,none⟩) W.ts.length cT)/\W.ts.length<=cT/\W.ts.length*160<=140737488351232/\w.cell? ⟨bt,ot+k*16+15,none⟩=some (Y aHh t.held.length cHh)/\IRow w aHh cHh t.held:=by
 obtain⟨⟨aS,aH,aF,aL,cS,cH,cF,cL,aT,cT,hX,hV⟩,-,-,-,-⟩:=h
 obtain⟨lt,A,hi,hts,hT,hTh⟩:=(hV w (fun _ _ _=>rfl)).parts
 have hkl:=(List.getElem?_eq_some_iff.1 hk).1
 have hlen:lt.length=W.ts.length:=by rw[hts,List.length_map]
 obtain⟨bt,ot,rfl⟩:=hT.addr (by omega)
 have hrg:=hT.range (show k<lt.length by omega)
 have ht:(lt[k]'(by omega)).1=t:=by
  have h:=hk
  rw[hts] at h
  simpa [show k<lt.length by omega] using h
 have hIR:=hT.held (lt[k]'(by omega)) (List.getElem_mem _)
 rw[ht] at hrg hIR
 refine⟨bt,ot,(lt[k]'(by omega)).2.aH,(lt[k]'(by omega)).2.cH,cT,(D5 hX).2.2.2.2.2.1,by have:=hT.le;omega,by have:=hT.max;omega,?_,hIR⟩
 exact hrg 15 _ rfl
theorem FBox.held{w:World}{X Yq a b:Nat}{W:Wd}(h:FBox w X Yq a b W){k:Nat}{t:Tk}(hk:W.ts[k]?=some t):Po w X k=t.held.length:=by
 obtain⟨bt,ot,aHh,cHh,cT,h1,-,-,h2,-⟩:=h.task hk
 unfold Po
 rw[h1]
 simp only[h2]
theorem FBox.below{w w':World}{X Yq a b:Nat}{W:Wd}(h:FBox w X Yq a b W)(hb:Below w.heap.size w w'):FBox w' X Yq a b W:=by
 obtain⟨⟨aS,aH,aF,aL,cS,cH,cF,cL,aT,cT,hX,hV⟩,⟨v,hY⟩,hne,hout,hle⟩:=h
 exact⟨⟨aS,aH,aF,aL,cS,cH,cF,cL,aT,cT,(hb.block _ (lt_of_block hX)).trans hX,hV.same fun j h1 h2=>hb.block j (by omega)⟩,⟨v,(hb.block _ (lt_of_block hY)).trans hY⟩,hne,hout,Nat.le_trans hle hb.size⟩
set_option maxHeartbeats 16000000 in
theorem a0o(many buckets tasks:Int)(l:List Pk)(aP:Option Addr)(cP:Nat)(w:World)(r:PRow w aP cP l)(m:Nat)(hm:m<=l.length)(hm':(l.length:Int)<=300/\m=l.length\/(300:Int)<(l.length:Int)/\m=300) :
  Calls Tryz.prog 9 #[O J many,O J buckets,O J tasks,Y aP l.length cP] w fun e w'=>e=.returned (.bool true)/\Below w.heap.size w w':=by
 have m1:=r.max
 have m2:=r.le
 have HR:Hid (PRow w aP cP (l.take m)):=r.take hm
 have HN:Hid (aP=none->cP=0):=r.nil
 have hm3:m<=300:=by omega
 have hmc:m<=cP:=by omega
 have HPl:Hid (∀ W:World,Calls Tryz.prog 18 #[] W fun e w'=>e=.returned (.bool true)/\Below W.heap.size W w'):=Vh
 have HNw:=X4 many buckets tasks w
 clear r
 go_enter Tryz.func9,Tryz.ntmps9
 go_wp2_with fail
 refine HNw.mono ?_
 rintro e w1 ⟨v,rfl,hv,hb1⟩
 obtain⟨E,hE⟩:∃ E,E=Py many buckets tasks:=⟨_,rfl⟩
 rw[<- hE] at hv ⊢
 clear HNw
 by_cases h0:E=0
 rotate_left
 ·have h':(E != 0)=true:=by simpa using h0
  obtain⟨aS,aH,aF,aL,cS,cH,cF,cL,aT,cT,lt,rfl,-⟩:=hv
  have Hb2:Hid (∀ o:Obj,Below w.heap.size w (w1.alloc o)):=fun o=>hb1.alloc hb1.size o
  clear hE hm' hb1
  go_wp2_with fail
  refine(HPl.out _).mono ?_
  rintro e w3 ⟨rfl,hb3⟩
  have Hb3:Hid (Below w.heap.size w w3):=(Hb2.out _).trans (hb3.mono (Hb2.out _).size)
  clear hb3 Hb2
  go_wp2_with fail
  refine(HPl.out _).mono ?_
  rintro e w4 ⟨rfl,hb4⟩
  have Hb4:Hid (Below w.heap.size w w4):=Hb3.out.trans (hb4.mono Hb3.out.size)
  clear hb4 Hb3
  go_wp2
  go_ret
  exact⟨rfl,Hb4.out⟩
 rw[if_pos h0] at hv
 obtain⟨h12,h14,h15⟩:=Y1 (hE.symm.trans h0)
 have HI:Hid (WInv (newW many.toNat buckets.toNat tasks.toNat)):=U2 h12 h14 h15
 have HEn:Hid _:=new_ends h12 h14 h15 (l.take m)
 clear hE h12 h14 h15
 subst h0
 generalize newW many.toNat buckets.toNat tasks.toNat=W0 at *
 obtain⟨aS,aH,aF,aL,cS,cH,cF,cL,aT,cT,lt,rfl,-⟩:=id hv
 obtain⟨oX,hoX⟩:∃ o:Obj,o=.cells #[Y aS W0.m.slots.length cS,Y aH W0.m.heads.length cH,Y aF W0.m.free.length cF,Y aL W0.m.locks.length cL,O J W0.m.now,Y aT W0.ts.length cT] 28:=⟨_,rfl⟩
 have b2:Below w1.heap.size w1 (w1.alloc oX):=Aa _ _
 have HX2:Hid ((w1.alloc oX).heap[w1.heap.size]?=some oX):=heap_alloc_new _ _
 have HV2:Hid (WAns 0 (w1.alloc oX) (.agg #[Y aS W0.m.slots.length cS,Y aH W0.m.heads.length cH,Y aF W0.m.free.length cF,Y aL W0.m.locks.length cL,O J W0.m.now,Y aT W0.ts.length cT]) W0):=(hv.below b2).mono (Nat.zero_le _)
 have Hb2:Hid (Below w.heap.size w (w1.alloc oX)):=hb1.alloc hb1.size _
 have hzX:w.heap.size<=w1.heap.size:=hb1.size
 clear hv hb1 b2
 go_wp2_with fail
 rw[<- hoX]
 generalize w1.alloc oX=W2 at *
 subst hoX
 refine(HPl.out W2).mono ?_
 rintro e w3 ⟨rfl,hb3⟩
 have HX3:Hid (w3.heap[w1.heap.size]?=some (.cells #[Y aS W0.m.slots.length cS,Y aH W0.m.heads.length cH,Y aF W0.m.free.length cF,Y aL W0.m.locks.length cL,O J W0.m.now,Y aT W0.ts.length cT] 28 (0,0))):=(hb3.block _ (lt_of_block HX2.out)).trans HX2.out
 have HV3:Hid (WAns 0 w3 (.agg #[Y aS W0.m.slots.length cS,Y aH W0.m.heads.length cH,Y aF W0.m.free.length cF,Y aL W0.m.locks.length cL,O J W0.m.now,Y aT W0.ts.length cT]) W0):=HV2.out.below hb3
 have Hb3:Hid (Below w.heap.size w w3):=Hb2.out.trans (hb3.mono Hb2.out.size)
 clear HX2 HV2 Hb2 hb3
 obtain⟨y0,y1,y2,y3,y4,y5,ys⟩:=D5 HX3.out
 obtain⟨sE,hsE⟩:∃ sE:Rs,sE=runR 0 (rs0 W0) (l.take m):=⟨_,rfl⟩
 have HIe:Hid (WInv sE.w):=by show WInv sE.w;rw[hsE];exact a1g HI.out _
 have HEe:Hid (∃ r,r<=296/\Idle (rounds r sE.w)):=by
  obtain⟨r,h1,-,h3,-⟩:=HEn.out
  refine⟨r,h1,?_⟩
  rw[hsE,a6x]
  exact h3
 have HRn:Hid (∀ V:World,Below w3.heap.size w3 V->Calls Tryz.prog 35 #[.agg #[Y aS W0.m.slots.length cS,Y aH W0.m.heads.length cH,Y aF W0.m.free.length cF,Y aL W0.m.locks.length cL,O J W0.m.now,Y aT W0.ts.length cT],Y aP m cP] V (RunP V sE)):=fun V hb=>by
  have h:=run_any HI.out (.agg #[Y aS W0.m.slots.length cS,Y aH W0.m.heads.length cH,Y aF W0.m.free.length cF,Y aL W0.m.locks.length cL,O J W0.m.now,Y aT W0.ts.length cT]) aP cP (l.take m) V (HV3.out.below hb) ((HR.out.below Hb3.out).below hb) (by rw[List.length_take];omega)
  rw[show (l.take m).length=m by rw[List.length_take];omega] at h
  rw[hsE]
  exact h
 clear hsE HEn HI HV3 HR
 rcases hm' with ⟨hl,hml⟩|⟨hl,hml⟩
 all_goals subst hml
 all_goals go_wp2_with fail
 all_goals go_region_with (go_at_call 35;refine(HRn.out _ (by exact⟨rfl,rfl,rfl,Nat.le_refl _,fun _ _=>rfl⟩)).mono ?_;rintro e w5 ⟨v5,v15,v45,pl,rfl,hv5,-,-,-,-,hb5⟩;obtain⟨aS5,aH5,aF5,aL5,cS5,cH5,cF5,cL5,aT5,cT5,lt5,rfl,-⟩:=id hv5;have HX5:Hid (w5.heap[w1.heap.size]?=some (.cells #[Y aS W0.m.slots.length cS,Y aH W0.m.heads.length cH,Y aF W0.m.free.length cF,Y aL W0.m.locks.length cL,O J W0.m.now,Y aT W0.ts.length cT] 28 (0,0))):=(hb5.block _ (lt_of_block HX3.out)).trans HX3.out;have f5:=fun j=>unfrozen_of_block HX5.out j;obtain⟨z0,z1,z2,z3,z4,z5,zs⟩:=D5 HX5.out)
 all_goals
  have hO5:=HX5.out
  obtain⟨W6,hW6⟩:∃ W6,W6=w5.setCells w1.heap.size 0 [Y aS5 sE.w.m.slots.length cS5,Y aH5 sE.w.m.heads.length cH5,Y aF5 sE.w.m.free.length cF5,Y aL5 sE.w.m.locks.length cL5,O J sE.w.m.now,Y aT5 sE.w.ts.length cT5]:=⟨_,rfl⟩
  have ho6:∀ j,j≠w1.heap.size->W6.heap[j]?=w5.heap[j]?:=fun j hj=>by rw[hW6];exact Ad hj _ _ _
  have HX6:Hid (W6.heap[w1.heap.size]?=some (.cells #[Y aS5 sE.w.m.slots.length cS5,Y aH5 sE.w.m.heads.length cH5,Y aF5 sE.w.m.free.length cF5,Y aL5 sE.w.m.locks.length cL5,O J sE.w.m.now,Y aT5 sE.w.ts.length cT5] 28 (0,0))):=by show _=_;rw[hW6];exact Bc hO5 rfl
  have hs6:W6.heap.size=w5.heap.size:=by rw[hW6,setCells_size]
  have hz3:w1.heap.size<w3.heap.size:=lt_of_block HX3.out
  have HV6:Hid (WIn w3.heap.size w5.heap.size W6 (.agg #[Y aS5 sE.w.m.slots.length cS5,Y aH5 sE.w.m.heads.length cH5,Y aF5 sE.w.m.free.length cF5,Y aL5 sE.w.m.locks.length cL5,O J sE.w.m.now,Y aT5 sE.w.ts.length cT5]) sE.w):=(show WIn w3.heap.size w5.heap.size w5 (.agg #[Y aS5 sE.w.m.slots.length cS5,Y aH5 sE.w.m.heads.length cH5,Y aF5 sE.w.m.free.length cF5,Y aL5 sE.w.m.locks.length cL5,O J sE.w.m.now,Y aT5 sE.w.ts.length cT5]) sE.w from hv5.wIn).same fun j h1 h2=>ho6 j (by omega)
  have HZ6:Hid (w5.heap.size<=W6.heap.size):=by show _<=_;omega
  have b5:Below w.heap.size w w5:=Hb3.out.trans (Below.mono (show Below w3.heap.size w3 w5 from ⟨hb5.os,hb5.tape,hb5.output,hb5.size,hb5.block⟩) Hb3.out.size)
  have Hb6:Hid (Below w.heap.size w W6):=by show Below w.heap.size w W6;rw[hW6];exact Ap b5 hzX
  have l6:Hid (W6.rangeAt w1.heap.size 0 [Y aS5 sE.w.m.slots.length cS5,Y aH5 sE.w.m.heads.length cH5,Y aF5 sE.w.m.free.length cF5,Y aL5 sE.w.m.locks.length cL5,O J sE.w.m.now,Y aT5 sE.w.ts.length cT5]):=Ag HX6.out rfl
  simp only[World.setCells,Nat.zero_add,Nat.reduceAdd] at hW6
  rw[<- hW6]
  clear hW6 ho6 hs6 hO5 hv5 hb5 b5 HX5 f5 z0 z1 z2 z3 z4 z5 zs y0 y1 y2 y3 y4 y5 ys HX3 Hb3 HRn
  obtain⟨rr,hrr,hidle⟩:=HEe.out
  have HIdle:Hid (Idle (rounds rr sE.w)):=hidle
  clear hidle HEe
  go_wp2_with (refine wl_6 rfl _ rfl rfl l6.out ?_)
  refine(a4v HIe.out 400 rr (by omega) (by omega) HIdle.out w3.heap.size w5.heap.size W6 _ HV6.out HZ6.out).mono ?_
  rintro e w7 ⟨v7,q,a7,b7,hq,hid,rfl,hv7,hb7z,hside,hb7⟩
  have HIr:Hid (WInv (rounds q sE.w)):=Ls q HIe.out
  have HId7:Hid (Idle (rounds q sE.w)):=hid
  generalize rounds q sE.w=U at *
  obtain⟨aS7,aH7,aF7,aL7,cS7,cH7,cF7,cL7,aT7,cT7,lt7,rfl,-⟩:=hv7 w7 (fun _ _ _=>rfl)
  have HX7:Hid (w7.heap[w1.heap.size]?=some (.cells #[Y aS5 sE.w.m.slots.length cS5,Y aH5 sE.w.m.heads.length cH5,Y aF5 sE.w.m.free.length cF5,Y aL5 sE.w.m.locks.length cL5,O J sE.w.m.now,Y aT5 sE.w.ts.length cT5] 28 (0,0))):=(hb7.block _ (lt_of_block HX6.out)).trans HX6.out
  have hx6:=lt_of_block HX6.out
  obtain⟨oB,hoB⟩:∃ o:Obj,o=.cells #[.bool false] 4:=⟨_,rfl⟩
  have bB:Below w7.heap.size w7 (w7.alloc oB):=Aa _ _
  have HX7b:Hid ((w7.alloc oB).heap[w1.heap.size]?=some (.cells #[Y aS5 sE.w.m.slots.length cS5,Y aH5 sE.w.m.heads.length cH5,Y aF5 sE.w.m.free.length cF5,Y aL5 sE.w.m.locks.length cL5,O J sE.w.m.now,Y aT5 sE.w.ts.length cT5] 28 (0,0))):=(bB.block _ (lt_of_block HX7.out)).trans HX7.out
  have HY7b:Hid ((w7.alloc oB).heap[w7.heap.size]?=some oB):=heap_alloc_new _ _
  have t6:Hid ((w7.alloc oB).there w1.heap.size 0 6):=Bo HX7b.out (by simp)
  obtain⟨Wq,hWq⟩:∃ Wq,Wq=(w7.alloc oB).setCells w1.heap.size 0 [Y aS7 U.m.slots.length cS7,Y aH7 U.m.heads.length cH7,Y aF7 U.m.free.length cF7,Y aL7 U.m.locks.length cL7,O J U.m.now,Y aT7 U.ts.length cT7]:=⟨_,rfl⟩
  have hoq:∀ j,j≠w1.heap.size->Wq.heap[j]?=(w7.alloc oB).heap[j]?:=fun j hj=>by rw[hWq];exact Ad hj _ _ _
  have hXq:Wq.heap[w1.heap.size]?=some (.cells #[Y aS7 U.m.slots.length cS7,Y aH7 U.m.heads.length cH7,Y aF7 U.m.free.length cF7,Y aL7 U.m.locks.length cL7,O J U.m.now,Y aT7 U.ts.length cT7] 28 (0,0)):=by rw[hWq];exact Bc HX7b.out rfl
  have hsq:Wq.heap.size=w7.heap.size+1:=by rw[hWq,setCells_size];simp
  have hxl:w1.heap.size<w7.heap.size:=lt_of_block HX7.out
  subst hoB
  have hYq:Wq.heap[w7.heap.size]?=some (.cells #[.bool false] 4 (0,0)):=(hoq _ (by omega)).trans HY7b.out
  obtain⟨cq,fq,sq⟩:=Af hYq
  have ho8:∀ j,j≠w7.heap.size->(Wq.setCell ⟨w7.heap.size,0,none⟩ (.bool true)).heap[j]?=Wq.heap[j]?:=fun j hj=>by exact Below.heap_setCell _ _ _ _ (by dsimp only;exact hj)
  have HF8:Hid (FBox (Wq.setCell ⟨w7.heap.size,0,none⟩ (.bool true)) w1.heap.size w7.heap.size a7 b7 U):=by
   refine⟨⟨aS7,aH7,aF7,aL7,cS7,cH7,cF7,cL7,aT7,cT7,(ho8 _ (by omega)).trans hXq,hv7.same fun j h1 h2=>(ho8 j (by omega)).trans ((hoq j (by omega)).trans (bB.block j (by omega)))⟩,⟨true,?_⟩,by omega,⟨by omega,by omega⟩,?_⟩
   ·rw[block_setCell (i:=0) hYq];rfl
   ·simp;omega
  have Hb8:Hid (Below w.heap.size w (Wq.setCell ⟨w7.heap.size,0,none⟩ (.bool true))):=by
   have h1:Below w.heap.size w w7:=Hb6.out.trans (hb7.mono Hb6.out.size)
   have h2:Below w.heap.size w Wq:=by rw[hWq];exact Ap (h1.alloc h1.size _) hzX
   exact h2.setCell (by have:=h1.size;omega) _
  obtain⟨d8,-,-⟩:=Af (show (Wq.setCell ⟨w7.heap.size,0,none⟩ (.bool true)).heap[w7.heap.size]?=some (.cells #[.bool true] 4 (0,0)) by rw[block_setCell (i:=0) hYq];rfl)
  obtain⟨r0,r1,r2,r3,r4,r5,rs⟩:=D5 ((ho8 _ (by omega)).trans hXq)
  clear hv7 hb7 HX7 HX7b HY7b hid ho8 hoq hXq hsq hYq hside hb7z HX6 HV6 Hb6 l6 bB
  go_wp2_with (first|(refine ws_6 rfl _ _ rfl rfl rfl t6.out (by kernel_rfl) ?_;rw[<- hWq];clear hWq t6))
  generalize Wq.setCell ⟨w7.heap.size,0,none⟩ (.bool true)=W8 at *
  have HIU:Hid (WInv U):=HIr
  clear r0 r1 r2 r3 r4 r5 rs d8 cq fq sq
  have hn5:U.ts.length<=5:=HIU.out.nt.2
  obtain⟨nT,hnT⟩:∃ nT,nT=U.ts.length:=⟨_,rfl⟩
  rw[<- hnT]
  rw[<- hnT] at hn5
  have hzY:w.heap.size<=w7.heap.size:=by omega
  generalize w7.heap.size=YY at *
  generalize w1.heap.size=XX at *
  go_loopw [56] (fun i wr=>∃ (k:Nat) (W:Wd) (a b:Nat),k<=nT/\i=O J k/\W.ts.length=nT/\Hid (WInv W)/\Hid (Idle W)/\Hid (FBox wr XX YY a b W)/\Hid (∀ j,j<k->∀ t,W.ts[j]?=some t->t.held=[])/\Hid (Below w.heap.size w wr)) (fun i _=>nT - (intOf i).toNat)
  case atStart=>exact⟨0,U,a7,b7,Nat.zero_le _,rfl,hnT.symm,HIU,HId7,HF8,(fun j h=>by omega),Hb8⟩
  case round =>
   clear HIU HId7 HF8 Hb8 HIr hnT
   obtain⟨k,W,a,b,hk,rfl,hlW,HI,HId,HF,HH,Hb⟩:=hrel
   by_cases hlt:k<nT
   ·have Hk1:Hid (k+1<=nT):=hlt
    go_wp2_with fail
    go_loopw [] (fun wr=>∃ (W:Wd) (a b:Nat),W.ts.length=nT/\Hid (WInv W)/\Hid (Idle W)/\Hid (FBox wr XX YY a b W)/\Hid (∀ j,j<k->∀ t,W.ts[j]?=some t->t.held=[])/\Hid (Below w.heap.size w wr)) (fun wr=>Po wr XX k)
    case atStart=>exact⟨W,a,b,hlW,HI,HId,HF,HH,Hb⟩
    case round =>
     clear HI HId HF HH Hb hlW
     obtain⟨W,a,b,hlW,HI,HId,HF,HH,Hb⟩:=hrel
     have hk9:=Hk1.out
     obtain⟨t,ht⟩:∃ t,W.ts[k]?=some t:=⟨W.ts[k]'(by omega),List.getElem?_eq_getElem _⟩
     have HtW:Hid (W.ts[k]?=some t):=ht
     obtain⟨bt,ot,aHh,cHh,cT,e1,e2,e3,e4,e5⟩:=HF.out.task ht
     rw[hlW] at e1 e2 e3
     have Hml:Hid (Po wr XX k=t.held.length):=HF.out.held ht
     have HlW:Hid (W.ts.length=nT):=hlW
     cases hh:t.held with
     | nil =>
      rw[hh] at e4
      have HH2:Hid (∀ j,j<k+1->∀ t,W.ts[j]?=some t->t.held=[]):=fun j hj t' ht'=>by
       by_cases e:j=k
       ·subst e
        rw[HtW.out] at ht'
        cases ht'
        exact hh
       ·exact HH.out j (by omega) t' ht'
      clear ht e5 hh hlW Hml HH
      go_wp2
      go_roundw
      case rel=>exact⟨k+1,W,a,b,Hk1.out,by go_num,HlW.out,HI,HId,HF,HH2,Hb⟩
      case measure=>have:=Hk1.out;simp[intOf];omega
     | cons x rest =>
      have hhm:=e5.max
      rcases e5.at_ with h0|⟨bh,oh,rfl,hc⟩
      ·rw[hh] at h0;cases h0
      have d0:wr.cell? ⟨bh,oh,none⟩=some (O J x):=by
       have h:=hc 0 (by rw[hh];simp)
       have e:t.held[0]'(by rw[hh];simp)=x:=by simp[hh]
       rw[e] at h
       exact h
      obtain⟨hd,⟨t',hr1,hb',hl'⟩,hI',-⟩:=a2n HI.out HId.out ht hh (n:=1) (Nat.le_refl 1)
      have hE:Idle (rounds 1 (doW W ⟨k,false,false,⟨6,0,0,0,0,x⟩⟩)):=by
       rw[hr1]
       intro u hu
       rcases List.mem_or_eq_of_mem_set hu with h|h
       ·exact HId.out u h
       ·rw[h];exact hb'
      have HC:Hid (Calls Tryz.prog 39 #[O J (k:Int),.agg #[O J 6,O J 0,O J 0,O J 0,O J 0,O J x],.pointer (some ⟨XX,0,none⟩),.pointer (some ⟨YY,0,none⟩)] wr (CallP wr XX YY 1 (doW W ⟨k,false,false,⟨6,0,0,0,0,x⟩⟩))):=Zz HI.out k ⟨6,0,0,0,0,x⟩ hd 1 (by omega) hE XX YY a b wr HF.out
      have Hlen:Hid (t.held.length=rest.length+1):=by show _=_;rw[hh];rfl
      rw[show t.held.length=rest.length+1 from Hlen.out] at e4
      have hcH:rest.length+1<=cHh:=by have:=e5.le;rw[Hlen.out] at this;exact this
      have hV1:(rounds 1 (doW W ⟨k,false,false,⟨6,0,0,0,0,x⟩⟩)).ts=W.ts.set k t':=by rw[hr1]
      have HVl:Hid ((rounds 1 (doW W ⟨k,false,false,⟨6,0,0,0,0,x⟩⟩)).ts.length=nT):=by show _=_;rw[hV1,List.length_set];exact hlW
      have HVk:Hid ((rounds 1 (doW W ⟨k,false,false,⟨6,0,0,0,0,x⟩⟩)).ts[k]?=some t'):=by show _=_;rw[hV1,List.getElem?_set_self (by omega)]
      have HVj:Hid (∀ j,j<k->∀ t,(rounds 1 (doW W ⟨k,false,false,⟨6,0,0,0,0,x⟩⟩)).ts[j]?=some t->t.held=[]):=fun j hj u hu=>by
       rw[hV1,List.getElem?_set_ne (by omega)] at hu
       exact HH.out j hj u hu
      have HVI:Hid (WInv (rounds 1 (doW W ⟨k,false,false,⟨6,0,0,0,0,x⟩⟩))):=hI'
      have HVd:Hid (Idle (rounds 1 (doW W ⟨k,false,false,⟨6,0,0,0,0,x⟩⟩))):=hE
      have Hl2:Hid (t'.held=rest):=hl'
      clear ht e5 hc hh hd hE hI' hlW hr1 hb' hl' hV1 HH HId HI HF
      go_wp2_with fail
      refine HC.out.mono ?_
      rintro e w9 ⟨q,a9,b9,hq,hid9,rfl,hF9,hs9,hk9',hb9⟩
      rw[<- Xr hq hid9] at hF9
      clear hid9 hq HC
      generalize rounds 1 (doW W ⟨k,false,false,⟨6,0,0,0,0,x⟩⟩)=V at *
      have HF9:Hid (FBox w9 XX YY a9 b9 V):=hF9
      have Hm9:Hid (Po w9 XX k<Po wr XX k):=by
       show _<_
       rw[hF9.held HVk.out,Hml.out,Hlen.out,Hl2.out]
       omega
      have Hb9:Hid (Below w.heap.size w w9):=⟨hb9.os.trans Hb.out.os,hb9.tape.trans Hb.out.tape,hb9.output.trans Hb.out.output,Nat.le_trans Hb.out.size hs9,fun j hj=>(hk9' j (by have:=Hb.out.size;omega) (by omega) (by omega)).trans (Hb.out.block j hj)⟩
      clear hF9 hs9 hk9' hb9 e1 e2 e3 e4 d0
      go_wp2
      go_roundw
      case rel=>exact⟨V,a9,b9,HVl.out,HVI,HVd,HF9,HVj,Hb9⟩
      case measure=>exact Hm9.out
   ·have hkE:k=nT:=by omega
    have HAll:Hid (∀ t∈W.ts,t.held=[]):=fun t ht=>by
     obtain⟨j,hj,e⟩:=List.getElem_of_mem ht
     exact HH.out j (by omega) t (by rw[List.getElem?_eq_getElem hj,e])
    obtain⟨⟨aS9,aH9,aF9,aL9,cS9,cH9,cF9,cL9,aT9,cT9,hX9,hV9⟩,-,-,-,-⟩:=id HF.out
    have l9:Hid (wr.rangeAt XX 0 [Y aS9 W.m.slots.length cS9,Y aH9 W.m.heads.length cH9,Y aF9 W.m.free.length cF9,Y aL9 W.m.locks.length cL9,O J W.m.now,Y aT9 W.ts.length cT9]):=Ag hX9 rfl
    have HV9:Hid (WAns a wr (.agg #[Y aS9 W.m.slots.length cS9,Y aH9 W.m.heads.length cH9,Y aF9 W.m.free.length cF9,Y aL9 W.m.locks.length cL9,O J W.m.now,Y aT9 W.ts.length cT9]) W):=hV9 wr (fun _ _ _=>rfl)
    have HFe:Hid (Fh W.m=Bj W.m):=by show _=_;unfold Fh Bj;rw[if_pos HI.out.chain]
    have hfew:(Bj W.m).length<=12:=by
     unfold Bj
     rw[List.length_map]
     have:=few' _ _ (F6 HI.out.okc.keys) HI.out.okc.Eo
     have:=HI.out.okc.ok.ns
     omega
    have hkq:¬ k<nT:=by omega
    clear hX9 hV9 HH hlW hkE
    go_wp2_with (refine wl_6 rfl _ rfl rfl l9.out ?_)
    refine(Su HI.out HV9.out).mono ?_
    rw[HFe.out]
    rintro e w9 ⟨ao,ca,rfl,hO9,hb9⟩
    obtain⟨L,hL⟩:∃ L,L=Bj W.m:=⟨_,rfl⟩
    rw[<- hL] at hO9 hfew ⊢
    have HL:Hid (Bj W.m=L):=hL.symm
    have HF9:Hid (FBox w9 XX YY a b W):=HF.out.below hb9
    have Hb9:Hid (Below w.heap.size w w9):=Hb.out.trans (hb9.mono Hb.out.size)
    have HO9:Hid (w9.ownsRow wr.heap.size 61 4 (Y ao L.length ca) L.length (encF L)):=hO9
    have HLX:Hid (XX<wr.heap.size/\YY<wr.heap.size):=by
     obtain⟨⟨_,_,_,_,_,_,_,_,_,_,hX,-⟩,⟨_,hY⟩,-,-,-⟩:=HF.out
     exact⟨lt_of_block hX,lt_of_block hY⟩
    have hca:L.length<=ca:=by
     obtain⟨-,h⟩:=hO9
     rcases h with ⟨-,h⟩|⟨g,c',cur,hv,-,-,hn,-⟩
     ·omega
     ·injection hv with _ _ e;omega
    clear hL hO9 hb9 HF Hb l9 HV9 HFe
    generalize wr.heap.size=zr at *
    go_wp2_with fail
    go_loopw [90] (fun i wr=>∃ (j:Nat) (W:Wd) (a b:Nat),j<=L.length/\i=O J j/\Hid (WInv W)/\Hid (Idle W)/\Hid (FBox wr XX YY a b W)/\Hid (∀ t∈W.ts,t.held=[])/\Hid (Bj W.m=L.drop j)/\Hid (w9.heap.size<=wr.heap.size/\∀ k,k<w9.heap.size->k≠XX->k≠YY->wr.heap[k]?=w9.heap[k]?)/\Hid (Below w.heap.size w wr)) (fun i _=>L.length - (intOf i).toNat)
    case atStart=>exact⟨0,W,a,b,Nat.zero_le _,rfl,HI,HId,HF9,HAll,(by show _=_;rw[List.drop_zero];exact HL.out),⟨Nat.le_refl _,fun _ _ _ _=>rfl⟩,Hb9⟩
    case round =>
     clear HI HId HF9 HAll HL Hb9 hlt hk
     obtain⟨j,W,a,b,hj,rfl,HI,HId,HF,HA,HL,Hk,Hb⟩:=hrel
     by_cases hlt:j<L.length
     ·obtain⟨gf,rfl,-,hgf,hgl,hcf⟩:=Y3 HO9.out (by omega)
      obtain⟨hx1,hx2⟩:=HLX.out
      obtain⟨fl,hfl⟩:∃ fl:Fl,fl=L[j]:=⟨_,rfl⟩
      have hc:∀ q,q<4->wr.cell? ⟨gf,j*4+q,none⟩=fl.enc[q]?:=fun q hq=>by
       rw[show wr.cell? ⟨gf,j*4+q,none⟩=w9.cell? ⟨gf,j*4+q,none⟩ from World.cell?_of_block (Hk.out.2 gf hgl (by omega) (by omega)),hcf (j*4+q) (by omega),a0d _ j q hlt hq,hfl]
      have c0:wr.cell? ⟨gf,j*4,none⟩=some (O J fl.a):=hc 0 (by omega)
      have c1:wr.cell? ⟨gf,j*4+1,none⟩=some (O J fl.b):=hc 1 (by omega)
      have c2:wr.cell? ⟨gf,j*4+2,none⟩=some (O J fl.slot):=hc 2 (by omega)
      have c3:wr.cell? ⟨gf,j*4+3,none⟩=some (O J fl.unt):=hc 3 (by omega)
      have hdr:Bj W.m=fl :: L.drop (j+1):=by rw[HL.out,hfl];exact List.drop_eq_getElem_cons hlt
      obtain⟨hd,hE,hh2,hI2,hf2⟩:=a4q HI.out HId.out HA.out hdr (n:=30) (Nat.le_refl _)
      obtain⟨oF,hoF⟩:∃ o:Obj,o=.cells #[O J fl.a,O J fl.b,O J fl.slot,O J fl.unt] 61:=⟨_,rfl⟩
      have HFa:Hid (FBox (wr.alloc oF) XX YY a b W):=HF.out.below (Aa _ _)
      have HC:Hid (Calls Tryz.prog 39 #[O J 0,.agg #[O J 3,O J fl.a,O J fl.b,O J 0,O J 0,O J 0],.pointer (some ⟨XX,0,none⟩),.pointer (some ⟨YY,0,none⟩)] (wr.alloc oF) (CallP (wr.alloc oF) XX YY 30 (doW W ⟨0,false,false,⟨3,fl.a,fl.b,0,0,0⟩⟩))):=Zz HI.out 0 ⟨3,fl.a,fl.b,0,0,0⟩ hd 30 (by omega) hE XX YY a b (wr.alloc oF) HFa.out
      have HVI:Hid (WInv (rounds 30 (doW W ⟨0,false,false,⟨3,fl.a,fl.b,0,0,0⟩⟩))):=hI2
      have HVd:Hid (Idle (rounds 30 (doW W ⟨0,false,false,⟨3,fl.a,fl.b,0,0,0⟩⟩))):=hE
      have HVh:Hid (∀ t∈(rounds 30 (doW W ⟨0,false,false,⟨3,fl.a,fl.b,0,0,0⟩⟩)).ts,t.held=[]):=hh2
      have HVf:Hid (Bj (rounds 30 (doW W ⟨0,false,false,⟨3,fl.a,fl.b,0,0,0⟩⟩)).m=L.drop (j+1)):=hf2
      have Hka:Hid (w9.heap.size<=(wr.alloc oF).heap.size/\∀ k,k<w9.heap.size->k≠XX->k≠YY->(wr.alloc oF).heap[k]?=w9.heap[k]?):=⟨by have:=Hk.out.1;simp;omega,fun k h1 h2 h3=>(Below.heap_alloc _ _ _ (by have:=Hk.out.1;omega)).trans (Hk.out.2 k h1 h2 h3)⟩
      have Hba:Hid (Below w.heap.size w (wr.alloc oF)):=Hb.out.alloc Hb.out.size _
      have HAl:Hid ((wr.alloc oF).heap[wr.heap.size]?=some oF):=heap_alloc_new _ _
      clear hc hcf hfl hdr hd hE hh2 hI2 hf2 HF HA HL Hk Hb HI HId hgf hgl hx1 hx2
      subst hoF
      go_wp2_with fail
      generalize wr.alloc _=wa at *
      refine HC.out.mono ?_
      rintro e w11 ⟨q,a9,b9,hq,hid9,rfl,hF9,hs9,hk9,hb11⟩
      rw[<- Xr hq hid9] at hF9
      clear hid9 hq HC
      generalize rounds 30 (doW W ⟨0,false,false,⟨3,fl.a,fl.b,0,0,0⟩⟩)=V at *
      have HF9:Hid (FBox w11 XX YY a9 b9 V):=hF9
      have Hkb:Hid (w9.heap.size<=w11.heap.size/\∀ k,k<w9.heap.size->k≠XX->k≠YY->w11.heap[k]?=w9.heap[k]?):=⟨Nat.le_trans Hka.out.1 hs9,fun k h1 h2 h3=>(hk9 k (Nat.lt_of_lt_of_le h1 Hka.out.1) h2 h3).trans (Hka.out.2 k h1 h2 h3)⟩
      have Hbb:Hid (Below w.heap.size w w11):=⟨hb11.os.trans Hba.out.os,hb11.tape.trans Hba.out.tape,hb11.output.trans Hba.out.output,Nat.le_trans Hba.out.size hs9,fun j hj=>(hk9 j (by have:=Hba.out.size;omega) (by omega) (by omega)).trans (Hba.out.block j hj)⟩
      clear hF9 hs9 hk9 hb11 c0 c1 c2 c3 HFa Hka Hba HAl
      go_wp2
      go_roundw
      case rel=>exact⟨j+1,V,a9,b9,by omega,by go_num,HVI,HVd,HF9,HVh,HVf,Hkb,Hbb⟩
      case measure=>simp[intOf];omega
     ·have hjE:j=L.length:=by omega
      have hnil:Bj W.m=[]:=by rw[HL.out,hjE,List.drop_length]
      have hfr:W.m.free.length=W.m.slots.length:=free_end HI.out HId.out HA.out hnil
      obtain⟨⟨aS9,aH9,aF9,aL9,cS9,cH9,cF9,cL9,aT9,cT9,hX9,hV9⟩,-,-,-,-⟩:=id HF.out
      obtain⟨r0,r1,r2,r3,r4,r5,rs⟩:=D5 hX9
      have l5:Hid (wr.rangeAt XX 0 [Y aS9 W.m.slots.length cS9,Y aH9 W.m.heads.length cH9,Y aF9 W.m.free.length cF9,Y aL9 W.m.locks.length cL9,O J W.m.now]):=Ag hX9 rfl
      obtain⟨lt9,A9,-,-,-,-⟩:=(hV9 wr (fun _ _ _=>rfl)).parts
      have HCk:Hid (Calls Tryz.prog 40 #[.agg #[Y aS9 W.m.slots.length cS9,Y aH9 W.m.heads.length cH9,Y aF9 W.m.free.length cF9,Y aL9 W.m.locks.length cL9,O J W.m.now]] wr fun e w'=>e=.returned (O J 0)/\Below wr.heap.size wr w'):=by
       have h:=check_any W.m aS9 aH9 aF9 aL9 cS9 cH9 cF9 cL9 wr A9
       rw[(Jh _).2 HI.out.okc.ok] at h
       exact h
      rw[hfr] at r2 l5 HCk
      have heq:((W.m.slots.length:Int)==(W.m.slots.length:Int))=true:=by simp
      clear hX9 hV9 A9 hnil hfr HF HA HL Hk HI HId
      go_wp2_with (refine wl_5 rfl _ rfl rfl l5.out ?_)
      refine HCk.out.mono ?_
      rintro e w12 ⟨rfl,hb12⟩
      have Hbz:Hid (Below w.heap.size w w12):=Hb.out.trans (hb12.mono Hb.out.size)
      clear hb12 r0 r1 r2 r3 r4 r5 rs l5 HCk
      go_wp2
      go_ret
      exact⟨rfl,Hbz.out⟩
theorem worldFrees_any(many buckets tasks:Int)(l:List Pk)(aP:Option Addr)(cP:Nat)(w:World)(r:PRow w aP cP l) :
  Calls Tryz.prog 9 #[O J many,O J buckets,O J tasks,Y aP l.length cP] w fun e w'=>e=.returned (.bool true)/\Below w.heap.size w w':=by
 by_cases h:l.length<=300
 ·exact a0o many buckets tasks l aP cP w r l.length (Nat.le_refl _) (.inl ⟨by omega,rfl⟩)
 ·exact a0o many buckets tasks l aP cP w r 300 (by omega) (.inr ⟨by omega,rfl⟩)
end
end Go.Proofs.YthhgoenomehobaaGreat.mm
