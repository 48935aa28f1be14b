/- Parts. -/
import Derived.Test.YthhgoenomehobaaGreatG47
import Derived.Test.YthhgoenomehobaaGreatG45
namespace Go.Proofs.YthhgoenomehobaaGreat.mm
set_option maxRecDepth 100000
set_option linter.unusedVariables false
open Go.Value renaming int → O, slice → Y
open Go.IntKind renaming i64 → J
section
open Go.ChangeShapes Go.WideShapes Go.ChangeAt Go.RowKit Go.Joins Go.Deep Go.Maps
structure FBox(w:World)(X Yq a b:Nat)(W:Wd):Prop where
 at_:∃ aS aH aF aL cS cH cF cL aT cT,w.heap[X]?=some (.cells #[Y aS W.m.slots.length cS,Y aH W.m.heads.length cH,Y aF W.m.free.length cF,Y aL W.m.locks.length cL,O J W.m.now,Y aT W.ts.length cT] 28 (0,0))/\WIn a b w (.agg #[Y aS W.m.slots.length cS,Y aH W.m.heads.length cH,Y aF W.m.free.length cF,Y aL W.m.locks.length cL,O J W.m.now,Y aT W.ts.length cT]) W
 ok:∃ v,w.heap[Yq]?=some (.cells #[.bool v] 4 (0,0))
 ne:X≠Yq
 out:¬ (a<=X/\X<b)/\¬ (a<=Yq/\Yq<b)
 le:b<=w.heap.size
def CallP(w:World)(X Yq r:Nat)(W:Wd)(e:Ending)(w':World):Prop :=
 ∃ q a b,q<=r/\Idle (rounds q W)/\e=.returned (.bool true)/\FBox w' X Yq a b (rounds q W)/\w'.heap.size ≥ w.heap.size/\(∀ k,k<w.heap.size->k≠X->k≠Yq->w'.heap[k]?=w.heap[k]?)/\Below 0 w w'
set_option maxHeartbeats 4000000 in
theorem Zz{W:Wd}(I:WInv W)(k:Nat)(c:Cl)(hd:doE W ⟨k,false,false,c⟩=0)(r:Nat)(hr:r<100)(hE:Idle (rounds r (doW W ⟨k,false,false,c⟩)))(X Yq a b:Nat)(w:World)(h:FBox w X Yq a b W) :
  Calls Tryz.prog 39 #[O J (k:Int),.agg #[O J c.kind,O J c.a,O J c.b,O J c.time,O J c.bk,O J c.slot],.pointer (some ⟨X,0,none⟩),.pointer (some ⟨Yq,0,none⟩)] w (CallP w X Yq r (doW W ⟨k,false,false,c⟩)):=by
 obtain⟨⟨aS,aH,aF,aL,cS,cH,cF,cL,aT,cT,hX,hV⟩,⟨vo,hY⟩,hne,hout,hle⟩:=h
 have HI:Hid (WInv W):=I
 have HD:Hid (doE W ⟨k,false,false,c⟩=0):=hd
 have HI2:Hid (WInv (doW W ⟨k,false,false,c⟩)):=J4 I hd
 have HE:Hid (Idle (rounds r (doW W ⟨k,false,false,c⟩))):=hE
 obtain⟨oc,hoc⟩:∃ o:Obj,o=.cells #[O J c.kind,O J c.a,O J c.b,O J c.time,O J c.bk,O J c.slot] 32:=⟨_,rfl⟩
 have b0:Below w.heap.size w (w.alloc oc):=Aa _ _
 have HX0:Hid ((w.alloc oc).heap[X]?=some (.cells #[Y aS W.m.slots.length cS,Y aH W.m.heads.length cH,Y aF W.m.free.length cF,Y aL W.m.locks.length cL,O J W.m.now,Y aT W.ts.length cT] 28 (0,0))):=(b0.block _ (lt_of_block hX)).trans hX
 have HY0:Hid ((w.alloc oc).heap[Yq]?=some (.cells #[.bool vo] 4 (0,0))):=(b0.block _ (lt_of_block hY)).trans hY
 have HV0:Hid (WIn a b (w.alloc oc) (.agg #[Y aS W.m.slots.length cS,Y aH W.m.heads.length cH,Y aF W.m.free.length cF,Y aL W.m.locks.length cL,O J W.m.now,Y aT W.ts.length cT]) W):=hV.same fun j h1 h2=>b0.block j (by omega)
 have HC0:Hid ((w.alloc oc).heap[w.heap.size]?=some oc):=heap_alloc_new _ _
 have Hb0:Hid (Below w.heap.size w (w.alloc oc)):=b0
 have HL:Hid (X<w.heap.size/\Yq<w.heap.size/\X≠Yq):=⟨lt_of_block hX,lt_of_block hY,hne⟩
 have HOut:Hid (¬ (a<=X/\X<b)/\¬ (a<=Yq/\Yq<b)/\b<=w.heap.size):=⟨hout.1,hout.2,hle⟩
 clear I hd hE hX hV hY hne hout hle b0
 subst hoc
 have l6:Hid ((w.alloc (.cells #[O J c.kind,O J c.a,O J c.b,O J c.time,O J c.bk,O J c.slot] 32)).rangeAt X 0 [Y aS W.m.slots.length cS,Y aH W.m.heads.length cH,Y aF W.m.free.length cF,Y aL W.m.locks.length cL,O J W.m.now,Y aT W.ts.length cT]):=Ag HX0.out rfl
 have lC:Hid ((w.alloc (.cells #[O J c.kind,O J c.a,O J c.b,O J c.time,O J c.bk,O J c.slot] 32)).rangeAt w.heap.size 0 [O J c.kind,O J c.a,O J c.b,O J c.time,O J c.bk,O J c.slot]):=Ag HC0.out rfl
 go_enter Tryz.func39,Tryz.ntmps39
 go_wp2_with (first|refine wl_6 rfl _ rfl rfl l6.out ?_|refine wl_C rfl _ rfl rfl lC.out ?_)
 clear l6 lC HC0
 generalize w.alloc _=V2 at *
 refine(a0c HI.out (x:=⟨k,false,false,c⟩) (HV0.out V2 (fun _ _ _=>rfl))).mono ?_
 rw[HD.out,if_pos rfl]
 rintro e w3 ⟨v3,rfl,hv3,hb3⟩
 generalize doW W ⟨k,false,false,c⟩=U at *
 obtain⟨aS2,aH2,aF2,aL2,cS2,cH2,cF2,cL2,aT2,cT2,lt2,rfl,-⟩:=id hv3
 obtain⟨oq,hoq⟩:∃ o:Obj,o=.cells #[Y aS2 U.m.slots.length cS2,Y aH2 U.m.heads.length cH2,Y aF2 U.m.free.length cF2,Y aL2 U.m.locks.length cL2,O J U.m.now,Y aT2 U.ts.length cT2] 28:=⟨_,rfl⟩
 have hz2:w.heap.size<=V2.heap.size:=Hb0.out.size
 have b4:Below V2.heap.size V2 (w3.alloc oq):=hb3.alloc hb3.size oq
 have hz3:=hb3.size
 have HN4:Hid ((w3.alloc oq).heap[w3.heap.size]?=some oq):=heap_alloc_new _ _
 have HX4:Hid ((w3.alloc oq).heap[X]?=some (.cells #[Y aS W.m.slots.length cS,Y aH W.m.heads.length cH,Y aF W.m.free.length cF,Y aL W.m.locks.length cL,O J W.m.now,Y aT W.ts.length cT] 28 (0,0))):=(b4.block _ (lt_of_block HX0.out)).trans HX0.out
 have HY4:Hid ((w3.alloc oq).heap[Yq]?=some (.cells #[.bool vo] 4 (0,0))):=(b4.block _ (lt_of_block HY0.out)).trans HY0.out
 have HV4:Hid (WIn V2.heap.size w3.heap.size (w3.alloc oq) (.agg #[Y aS2 U.m.slots.length cS2,Y aH2 U.m.heads.length cH2,Y aF2 U.m.free.length cF2,Y aL2 U.m.locks.length cL2,O J U.m.now,Y aT2 U.ts.length cT2]) U):=hv3.wIn.same fun j h1 h2=>(Aa _ _).block j h2
 have HZ4:Hid (w3.heap.size<=(w3.alloc oq).heap.size):=by show _<=_;simp
 have Hb4:Hid (Below w.heap.size w (w3.alloc oq)):=Hb0.out.trans (b4.mono hz2)
 subst hoq
 have l7:Hid ((w3.alloc (.cells #[Y aS2 U.m.slots.length cS2,Y aH2 U.m.heads.length cH2,Y aF2 U.m.free.length cF2,Y aL2 U.m.locks.length cL2,O J U.m.now,Y aT2 U.ts.length cT2] 28)).rangeAt w3.heap.size 0 [Y aS2 U.m.slots.length cS2,Y aH2 U.m.heads.length cH2,Y aF2 U.m.free.length cF2,Y aL2 U.m.locks.length cL2,O J U.m.now,Y aT2 U.ts.length cT2]):=Ag HN4.out rfl
 clear hv3 hb3 b4 HX0 HY0 HV0 Hb0 HN4
 go_wp2_with (refine wl_6 rfl _ rfl rfl l7.out ?_)
 clear l7
 generalize World.alloc w3 _=V4 at *
 refine(a4v HI2.out 100 r hr (by omega) HE.out V2.heap.size w3.heap.size V4 _ HV4.out HZ4.out).mono ?_
 rintro e w7 ⟨v7,q,a7,b7,hq,hid,rfl,hv7,hb7z,hside,hb7⟩
 obtain⟨aS7,aH7,aF7,aL7,cS7,cH7,cF7,cL7,aT7,cT7,lt7,rfl,-⟩:=hv7 w7 (fun _ _ _=>rfl)
 have HX7:Hid (w7.heap[X]?=some (.cells #[Y aS W.m.slots.length cS,Y aH W.m.heads.length cH,Y aF W.m.free.length cF,Y aL W.m.locks.length cL,O J W.m.now,Y aT W.ts.length cT] 28 (0,0))):=(hb7.block _ (lt_of_block HX4.out)).trans HX4.out
 have HY7:Hid (w7.heap[Yq]?=some (.cells #[.bool vo] 4 (0,0))):=(hb7.block _ (lt_of_block HY4.out)).trans HY4.out
 have hz4:=hb7.size
 have hz5:=Hb4.out.size
 obtain⟨hLX,hLY,hLN⟩:=HL.out
 have hside':¬ (a7<=X/\X<b7)/\¬ (a7<=Yq/\Yq<b7):=by rcases hside with ⟨h1,h2⟩|h1 <;> constructor <;> omega
 have t6:Hid (w7.there X 0 6):=Bo HX7.out (by simp)
 obtain⟨W8,hW8⟩:∃ W8,W8=w7.setCells X 0 [Y aS7 (rounds q U).m.slots.length cS7,Y aH7 (rounds q U).m.heads.length cH7,Y aF7 (rounds q U).m.free.length cF7,Y aL7 (rounds q U).m.locks.length cL7,O J (rounds q U).m.now,Y aT7 (rounds q U).ts.length cT7]:=⟨_,rfl⟩
 have ho8:∀ j,j≠X->W8.heap[j]?=w7.heap[j]?:=fun j hj=>by rw[hW8];exact Ad hj _ _ _
 have hs8:W8.heap.size=w7.heap.size:=by rw[hW8,setCells_size]
 have hX8:W8.heap[X]?=some (.cells #[Y aS7 (rounds q U).m.slots.length cS7,Y aH7 (rounds q U).m.heads.length cH7,Y aF7 (rounds q U).m.free.length cF7,Y aL7 (rounds q U).m.locks.length cL7,O J (rounds q U).m.now,Y aT7 (rounds q U).ts.length cT7] 28 (0,0)):=by rw[hW8];exact Bc HX7.out rfl
 have hY8:W8.heap[Yq]?=some (.cells #[.bool vo] 4 (0,0)):=(ho8 Yq (fun e=>hLN e.symm)).trans HY7.out
 obtain⟨c8,f8,s8⟩:=Af hY8
 have HF:Hid (FBox (W8.setCell ⟨Yq,0,none⟩ (.bool true)) X Yq a7 b7 (rounds q U)):=by
  have ho9:∀ j,j≠Yq->(W8.setCell ⟨Yq,0,none⟩ (.bool true)).heap[j]?=W8.heap[j]?:=fun j hj=>Below.heap_setCell _ _ _ _ (by dsimp only;exact hj)
  refine⟨⟨aS7,aH7,aF7,aL7,cS7,cH7,cF7,cL7,aT7,cT7,(ho9 X hLN).trans hX8,hv7.same fun j h1 h2=>(ho9 j (by rintro rfl;exact hside'.2 ⟨h1,h2⟩)).trans (ho8 j (by rintro rfl;exact hside'.1 ⟨h1,h2⟩))⟩,⟨true,?_⟩,hLN,hside',?_⟩
  ·rw[block_setCell (i:=0) hY8];rfl
  ·simp;omega
 have HK:Hid ((W8.setCell ⟨Yq,0,none⟩ (.bool true)).heap.size ≥ w.heap.size/\(∀ k,k<w.heap.size->k≠X->k≠Yq->(W8.setCell ⟨Yq,0,none⟩ (.bool true)).heap[k]?=w.heap[k]?)/\Below 0 w (W8.setCell ⟨Yq,0,none⟩ (.bool true))):=by
  refine⟨by simp;omega,fun j h1 h2 h3=>?_,?_⟩
  ·rw[Below.heap_setCell _ _ _ _ (by dsimp only;exact h3),ho8 j h2,hb7.block j (by omega),Hb4.out.block j h1]
  ·refine Below.setCell ?_ (Nat.zero_le _) _
   rw[hW8]
   exact Ap ((Hb4.out.trans (hb7.mono hz5)).mono (Nat.zero_le _)) (Nat.zero_le _)
 have HId:Hid (Idle (rounds q U)):=hid
 obtain⟨d8,-,-⟩:=Af (show (W8.setCell ⟨Yq,0,none⟩ (.bool true)).heap[Yq]?=some (.cells #[.bool true] 4 (0,0)) by rw[block_setCell (i:=0) hY8];rfl)
 clear hv7 hb7 HX7 HY7 hid ho8 hs8 hX8 hY8 hside hside' hb7z HX4 HY4 HV4 HZ4 Hb4 hz4 hz5
 generalize hR:rounds q U=R at *
 have HR:Hid (rounds q U=R):=hR
 clear hR
 go_wp2_with (first|(refine ws_6 rfl _ _ rfl rfl rfl t6.out (by kernel_rfl) ?_;rw[<- hW8];clear hW8 t6))
 go_ret
 exact⟨q,a7,b7,hq,by rw[HR.out];exact HId.out,rfl,by rw[HR.out];exact HF.out,HK.out.1,HK.out.2.1,HK.out.2.2⟩
end
end Go.Proofs.YthhgoenomehobaaGreat.mm
