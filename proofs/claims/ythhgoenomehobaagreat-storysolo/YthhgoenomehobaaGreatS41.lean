/- Parts. -/
import Derived.Test.YthhgoenomehobaaGreatS38
import Derived.Test.YthhgoenomehobaaGreatS40
namespace Go.Proofs.YthhgoenomehobaaGreat.mm
set_option maxRecDepth 100000
set_option linter.unusedVariables false
open Go.Value renaming int → O, slice → Y
open Go.IntKind renaming i64 → J
section
open Go.ChangeShapes Go.WideShapes Go.ChangeAt Go.RowKit Go.Joins Go.Deep Go.Maps
theorem Gh.parts{lo:Nat}{V:World}{W:Wd}{aS aH aF aL:Option Addr}{cS cH cF cL:Nat}{aT:Option Addr}{cT:Nat}(h:Gh lo V (.agg #[Y aS W.m.slots.length cS,Y aH W.m.heads.length cH,Y aF W.m.free.length cF,Y aL W.m.locks.length cL,O J W.m.now,Y aT W.ts.length cT]) W):∃ lt,At V aS aH aF aL cS cH cF cL W.m/\Hi4 lo aS aH aF aL/\W.ts=lt.map (·.1)/\J6 V aT cT lt/\THi lo aT lt:=by
 obtain⟨bS,bH,bF,bL,dS,dH,dF,dL,bT,dT,lt,e,A,hi,hts,hT,hTh⟩:=h
 have e1:=Value.agg.inj e
 simp only[Array.mk.injEq,List.cons.injEq,Value.slice.injEq,true_and,and_true] at e1
 obtain⟨⟨rfl,rfl⟩,⟨rfl,rfl⟩,⟨rfl,rfl⟩,⟨rfl,rfl⟩,rfl,rfl⟩:=e1
 exact⟨lt,A,hi,hts,hT,hTh⟩
theorem Yf{W:Wd}(I:Bi W){lo:Nat}{V:World}{aS aH aF aL:Option Addr}{cS cH cF cL:Nat}{aT:Option Addr}{cT:Nat}(h:Gh lo V (.agg #[Y aS W.m.slots.length cS,Y aH W.m.heads.length cH,Y aF W.m.free.length cF,Y aL W.m.locks.length cL,O J W.m.now,Y aT W.ts.length cT]) W) :
  Calls Tryz.prog 19 #[.agg #[Y aS W.m.slots.length cS,Y aH W.m.heads.length cH,Y aF W.m.free.length cF,Y aL W.m.locks.length cL,O J W.m.now,Y aT W.ts.length cT]] V fun e V'=>e=.returned (O J 0)/\Below V.heap.size V V':=by
 obtain⟨lt,A,hi,hts,hT,hTh⟩:=h.parts
 have h:=Vt W.m lt aS aH aF aL cS cH cF cL aT cT V A hT
 have hts':lt.length=W.ts.length:=by rw[hts,List.length_map]
 rw[<- hts,hts',show wE ⟨W.m,W.ts⟩=0 from I.wE] at h
 exact h
set_option maxHeartbeats 800000 in
theorem Yo{W:Wd}(I:Bi W){lo:Nat}{w:World}{aS aH aF aL:Option Addr}{cS cH cF cL:Nat}{aT:Option Addr}{cT:Nat}(h:Gh lo w (.agg #[Y aS W.m.slots.length cS,Y aH W.m.heads.length cH,Y aF W.m.free.length cF,Y aL W.m.locks.length cL,O J W.m.now,Y aT W.ts.length cT]) W) :
  Calls Tryz.prog 28 #[.agg #[Y aS W.m.slots.length cS,Y aH W.m.heads.length cH,Y aF W.m.free.length cF,Y aL W.m.locks.length cL,O J W.m.now,Y aT W.ts.length cT]] w fun e w'=>∃ ao cap,e=.returned (.tuple #[Y ao (Gx W.m).length cap,O J 0])/\w'.ownsRow w.heap.size 61 4 (Y ao (Gx W.m).length cap) (Gx W.m).length (Nh (Gx W.m))/\Below w.heap.size w w':=by
 obtain⟨ox,hox⟩:∃ o:Obj,o=.cells #[Y aS W.m.slots.length cS,Y aH W.m.heads.length cH,Y aF W.m.free.length cF,Y aL W.m.locks.length cL,O J W.m.now,Y aT W.ts.length cT] 28:=⟨_,rfl⟩
 have b0:Below w.heap.size w (w.alloc ox):=Ad w ox
 have HX0:Hid ((w.alloc ox).heap[w.heap.size]?=some ox):=heap_alloc_new w ox
 have HV0:Hid (Gh lo (w.alloc ox) (.agg #[Y aS W.m.slots.length cS,Y aH W.m.heads.length cH,Y aF W.m.free.length cF,Y aL W.m.locks.length cL,O J W.m.now,Y aT W.ts.length cT]) W):=h.below b0
 have HI:Hid (Bi W):=I
 have HCh:Hid (O4 W.m=0):=I.chain
 obtain⟨L,hL⟩:∃ L,L=Gx W.m:=⟨_,rfl⟩
 have HL:Hid (L=Gx W.m):=hL
 rw[<- hL]
 subst hox
 have l6:Hid ((w.alloc (.cells #[Y aS W.m.slots.length cS,Y aH W.m.heads.length cH,Y aF W.m.free.length cF,Y aL W.m.locks.length cL,O J W.m.now,Y aT W.ts.length cT] 28)).rangeAt w.heap.size 0 [Y aS W.m.slots.length cS,Y aH W.m.heads.length cH,Y aF W.m.free.length cF,Y aL W.m.locks.length cL,O J W.m.now,Y aT W.ts.length cT]):=Bz HX0.out rfl
 clear h I hL
 go_enter Tryz.func28,Tryz.ntmps28
 go_wp2_with (refine Ky rfl _ rfl rfl l6.out ?_)
 generalize w.alloc _=W0 at *
 clear l6
 refine(Yf HI.out HV0.out).mono ?_
 rintro e w1 ⟨rfl,hb1⟩
 have HX1:Hid (w1.heap[w.heap.size]?=_):=(hb1.block _ (lt_of_block HX0.out)).trans HX0.out
 have HV1:Hid (Gh lo w1 (.agg #[Y aS W.m.slots.length cS,Y aH W.m.heads.length cH,Y aF W.m.free.length cF,Y aL W.m.locks.length cL,O J W.m.now,Y aT W.ts.length cT]) W):=HV0.out.below hb1
 have b1:Below w.heap.size w w1:=b0.trans (hb1.mono b0.size)
 clear HX0 HV0 hb1 b0
 have l5:Hid (w1.rangeAt w.heap.size 0 [Y aS W.m.slots.length cS,Y aH W.m.heads.length cH,Y aF W.m.free.length cF,Y aL W.m.locks.length cL,O J W.m.now]):=Bz HX1.out rfl
 go_wp2_with (refine b9x rfl _ rfl rfl l5.out ?_)
 obtain⟨lt,A1,-,-,-,-⟩:=HV1.out.parts
 refine(a6r W.m aS aH aF aL cS cH cF cL w1 A1).mono ?_
 rw[HCh.out,<- HL.out]
 rintro e w2 ⟨ao,cap,rfl,hR,hb2⟩
 have HR:Hid (w2.ownsRow w.heap.size 61 4 (Y ao L.length cap) L.length (Nh L)):=ownsRow_le hR b1.size
 have b2:Below w.heap.size w w2:=b1.trans (hb2.mono b1.size)
 clear hR hb2 b1 HX1 HV1 l5 A1
 go_wp2
 go_ret2
 exact⟨ao,cap,rfl,HR.out,b2⟩
end
end Go.Proofs.YthhgoenomehobaaGreat.mm
