/- Parts. -/
import Derived.Test.YthhgoenomehobaaGreatG51
import Derived.Test.YthhgoenomehobaaGreatG45
import Derived.Laws.EntriesVeiled
namespace Go.Proofs.YthhgoenomehobaaGreat.mm
set_option maxRecDepth 100000
set_option linter.unusedVariables false
open Go.Value renaming int → O, slice → Y
open Go.IntKind renaming i64 → J
section
open Go.ChangeShapes Go.WideShapes Go.ChangeAt Go.RowKit Go.Joins Go.Deep Go.Maps
set_option maxHeartbeats 4000000 in
theorem Zr{W0:Wd}(I:WInv W0)(l:List Pk)(aP:Option Addr)(cP:Nat)(p:Pst)(aK:Option Addr)(cK:Nat){aS aH aF aL:Option Addr}{cS cH cF cL:Nat}{aT:Option Addr}{cT:Nat}(w:World)(hv:WAns 0 w (.agg #[Y aS W0.m.slots.length cS,Y aH W0.m.heads.length cH,Y aF W0.m.free.length cF,Y aL W0.m.locks.length cL,O J W0.m.now,Y aT W0.ts.length cT]) W0)(hr:PRow w aP cP l)(hl:l.length<=300)(h1:p.fro<=p.to)(h2:p.to<l.length)(R:Int)(hR:R=wit W0 (l.take (p.to+1)) p (p.to+1))(h3:R ≠ -1) :
  Calls Tryz.prog 41 #[.agg #[Y aS W0.m.slots.length cS,Y aH W0.m.heads.length cH,Y aF W0.m.free.length cF,Y aL W0.m.locks.length cL,O J W0.m.now,Y aT W0.ts.length cT],Y aP l.length cP,.agg #[O J p.task,O J p.c.kind,O J p.c.a,O J p.c.b,O J p.c.time,O J p.c.bk,O J p.c.slot,O J p.fro,O J p.to,O J p.e,O J p.slot,O J p.n,Y aK p.keys.length cK]] w fun e w'=>e=.returned (.tuple #[O J R,O J 0])/\Below w.heap.size w w':=by
 have HI:Hid (WInv W0):=I
 have HL:Hid (PRow w aP cP (l.take (p.to+1))):=hr.take (by omega)
 have HLl:Hid ((l.take (p.to+1)).length=p.to+1):=by show _=_;rw[List.length_take];omega
 have HN:Hid (aP=none->cP=0):=hr.nil
 have m1:=hr.max
 have m2:=hr.le
 have HRr:Hid (R=wit W0 (l.take (p.to+1)) p (p.to+1)):=hR
 have h3':(R == -1)=false:=by simpa using h3
 have Hh:Hid (p.fro<=p.to/\p.to<l.length/\l.length<=300):=⟨h1,h2,hl⟩
 have hto:p.to<300:=by omega
 have htc:p.to+1<=cP:=by omega
 obtain⟨ox,hox⟩:∃ o:Obj,o=.cells #[Y aS W0.m.slots.length cS,Y aH W0.m.heads.length cH,Y aF W0.m.free.length cF,Y aL W0.m.locks.length cL,O J W0.m.now,Y aT W0.ts.length cT] 28:=⟨_,rfl⟩
 obtain⟨op,hop⟩:∃ o:Obj,o=.cells #[O J p.task,O J p.c.kind,O J p.c.a,O J p.c.b,O J p.c.time,O J p.c.bk,O J p.c.slot,O J p.fro,O J p.to,O J p.e,O J p.slot,O J p.n,Y aK p.keys.length cK] 78:=⟨_,rfl⟩
 have b0:Below w.heap.size w ((w.alloc ox).alloc op):=below_alloc2 _ _ _
 have HX0:Hid (((w.alloc ox).alloc op).heap[w.heap.size]?=some ox):=by show _=_;rw[Below.heap_alloc _ _ _ (by simp),heap_alloc_new]
 have HP0:Hid (((w.alloc ox).alloc op).heap[w.heap.size+1]?=some op):=by
  have:=heap_alloc_new (w.alloc ox) op
  rwa [show (w.alloc ox).heap.size=w.heap.size+1 by simp] at this
 have HV0:Hid (WAns 0 ((w.alloc ox).alloc op) (.agg #[Y aS W0.m.slots.length cS,Y aH W0.m.heads.length cH,Y aF W0.m.free.length cF,Y aL W0.m.locks.length cL,O J W0.m.now,Y aT W0.ts.length cT]) W0):=hv.below b0
 have HWi:Hid (WIn 0 w.heap.size w (.agg #[Y aS W0.m.slots.length cS,Y aH W0.m.heads.length cH,Y aF W0.m.free.length cF,Y aL W0.m.locks.length cL,O J W0.m.now,Y aT W0.ts.length cT]) W0):=hv.wIn
 have Hb0:Hid (Below w.heap.size w ((w.alloc ox).alloc op)):=b0
 have l6:Hid (((w.alloc (.cells #[Y aS W0.m.slots.length cS,Y aH W0.m.heads.length cH,Y aF W0.m.free.length cF,Y aL W0.m.locks.length cL,O J W0.m.now,Y aT W0.ts.length cT] 28)).alloc (.cells #[O J p.task,O J p.c.kind,O J p.c.a,O J p.c.b,O J p.c.time,O J p.c.bk,O J p.c.slot,O J p.fro,O J p.to,O J p.e,O J p.slot,O J p.n,Y aK p.keys.length cK] 78)).rangeAt w.heap.size 0 [Y aS W0.m.slots.length cS,Y aH W0.m.heads.length cH,Y aF W0.m.free.length cF,Y aL W0.m.locks.length cL,O J W0.m.now,Y aT W0.ts.length cT]):=by subst hox hop;exact Ag HX0.out rfl
 have lP:Hid (((w.alloc (.cells #[Y aS W0.m.slots.length cS,Y aH W0.m.heads.length cH,Y aF W0.m.free.length cF,Y aL W0.m.locks.length cL,O J W0.m.now,Y aT W0.ts.length cT] 28)).alloc (.cells #[O J p.task,O J p.c.kind,O J p.c.a,O J p.c.b,O J p.c.time,O J p.c.bk,O J p.c.slot,O J p.fro,O J p.to,O J p.e,O J p.slot,O J p.n,Y aK p.keys.length cK] 78)).rangeAt (w.heap.size+1) 0 (p.enc aK cK)):=by subst hox hop;exact Ag HP0.out rfl
 clear I hv hr hl h1 h2 hR h3 b0
 go_enter Tryz.func41,Tryz.ntmps41
 go_wp2_with (first|refine wl_6 rfl _ rfl rfl l6.out ?_|refine wl_P rfl _ rfl rfl lP.out ?_)
 rw[<- hox,<- hop]
 rw[<- hox,<- hop] at l6 lP
 clear l6 lP
 generalize (w.alloc ox).alloc op=V0 at *
 subst hox hop
 refine(a2a HI.out HV0.out aP cP l.length Hh.out.2.2 p aK cK Hh.out.1 Hh.out.2.1).mono ?_
 rintro e w1 ⟨rfl,hb1⟩
 have HX1:Hid (w1.heap[w.heap.size]?=some (.cells #[Y aS W0.m.slots.length cS,Y aH W0.m.heads.length cH,Y aF W0.m.free.length cF,Y aL W0.m.locks.length cL,O J W0.m.now,Y aT W0.ts.length cT] 28 (0,0))):=(hb1.block _ (lt_of_block HX0.out)).trans HX0.out
 have HP1:Hid (w1.heap[w.heap.size+1]?=some (.cells #[O J p.task,O J p.c.kind,O J p.c.a,O J p.c.b,O J p.c.time,O J p.c.bk,O J p.c.slot,O J p.fro,O J p.to,O J p.e,O J p.slot,O J p.n,Y aK p.keys.length cK] 78 (0,0))):=(hb1.block _ (lt_of_block HP0.out)).trans HP0.out
 have Hb1:Hid (Below w.heap.size w w1):=Hb0.out.trans (hb1.mono Hb0.out.size)
 clear hb1 HX0 HP0 HV0 Hb0
 have lP:Hid (w1.rangeAt (w.heap.size+1) 0 (p.enc aK cK)):=Ag HP1.out rfl
 go_wp2_with (refine wl_P rfl _ rfl rfl lP.out ?_)
 refine(rule_any p aK cK w1).mono ?_
 rintro e w2 ⟨v2,rfl,hv2,hb2⟩
 obtain⟨F2,caps2,rfl,-,-⟩:=id hv2.ex
 have HV2:Hid (RuF w2 (.func (.func F2) #[] caps2) (U8 p)):=hv2
 have HX2:Hid (w2.heap[w.heap.size]?=_):=(hb2.block _ (lt_of_block HX1.out)).trans HX1.out
 have HP2:Hid (w2.heap[w.heap.size+1]?=_):=(hb2.block _ (lt_of_block HP1.out)).trans HP1.out
 have Hb2:Hid (Below w.heap.size w w2):=Hb1.out.trans (hb2.mono Hb1.out.size)
 clear hv2 hb2 HX1 HP1 Hb1 lP
 obtain⟨o1,ho1⟩:∃ o:Obj,o=.cells #[O J (-1)] 3:=⟨_,rfl⟩
 obtain⟨o2,ho2⟩:∃ o:Obj,o=.cells #[.func (.func F2) #[] caps2] 135:=⟨_,rfl⟩
 have hb3:Below w2.heap.size w2 ((w2.alloc o1).alloc o2):=below_alloc2 _ _ _
 have HX3:Hid (((w2.alloc o1).alloc o2).heap[w.heap.size]?=some (.cells #[Y aS W0.m.slots.length cS,Y aH W0.m.heads.length cH,Y aF W0.m.free.length cF,Y aL W0.m.locks.length cL,O J W0.m.now,Y aT W0.ts.length cT] 28 (0,0))):=(hb3.block _ (lt_of_block HX2.out)).trans HX2.out
 have HP3:Hid (((w2.alloc o1).alloc o2).heap[w.heap.size+1]?=some (.cells #[O J p.task,O J p.c.kind,O J p.c.a,O J p.c.b,O J p.c.time,O J p.c.bk,O J p.c.slot,O J p.fro,O J p.to,O J p.e,O J p.slot,O J p.n,Y aK p.keys.length cK] 78 (0,0))):=(hb3.block _ (lt_of_block HP2.out)).trans HP2.out
 have H13:Hid (((w2.alloc o1).alloc o2).heap[w2.heap.size]?=some o1):=by show _=_;rw[Below.heap_alloc _ _ _ (by simp),heap_alloc_new]
 have H23:Hid (((w2.alloc o1).alloc o2).heap[w2.heap.size+1]?=some o2):=by
  have:=heap_alloc_new (w2.alloc o1) o2
  rwa [show (w2.alloc o1).heap.size=w2.heap.size+1 by simp] at this
 have Hb23:Hid (Below w2.heap.size w2 ((w2.alloc o1).alloc o2)):=hb3
 have Hb3:Hid (Below w.heap.size w ((w2.alloc o1).alloc o2)):=Hb2.out.trans (hb3.mono Hb2.out.size)
 have hz2:w.heap.size+1<w2.heap.size:=lt_of_block HP2.out
 clear HX2 HP2 Hb2 hb3
 go_wp2_with fail
 rw[<- ho1,<- ho2]
 generalize (w2.alloc o1).alloc o2=V3 at *
 subst ho1 ho2
 have HT:Hid (∀ V,Below V3.heap.size V3 V->Calls Tryz.prog 91 #[.agg #[Y aS W0.m.slots.length cS,Y aH W0.m.heads.length cH,Y aF W0.m.free.length cF,Y aL W0.m.locks.length cL,O J W0.m.now,Y aT W0.ts.length cT],Y aP (p.to+1) cP,.agg #[O J p.c.a,O J p.c.b],.func (.func 92) #[] #[.pointer (some ⟨w2.heap.size,0,none⟩),.pointer (some ⟨w.heap.size+1,0,none⟩),.pointer (some ⟨w2.heap.size+1,0,none⟩)]] V fun e w'=>e=.returned (O J 0)/\w'.heap[w2.heap.size]?=some (.cells #[O J R] 3 (0,0))/\Below w.heap.size w w'):=fun V hb=>by
  have hz3:=lt_of_block H13.out
  have hz4:=lt_of_block H23.out
  have hz5:=hb.size
  have hbV:Below w.heap.size w V:=Hb3.out.trans (hb.mono Hb3.out.size)
  obtain⟨Jq,hJ⟩:∃ Jq:Nat->World->Prop,Jq=fun k W=>W.heap[w2.heap.size]?=some (.cells #[O J (wit W0 (l.take (p.to+1)) p k)] 3 (0,0))/\W.heap[w.heap.size+1]?=some (.cells #[O J p.task,O J p.c.kind,O J p.c.a,O J p.c.b,O J p.c.time,O J p.c.bk,O J p.c.slot,O J p.fro,O J p.to,O J p.e,O J p.slot,O J p.n,Y aK p.keys.length cK] 78 (0,0))/\W.heap[w2.heap.size+1]?=some (.cells #[.func (.func F2) #[] caps2] 135 (0,0))/\Below w2.heap.size w2 W:=⟨_,rfl⟩
  have h:=a3l 92 #[.pointer (some ⟨w2.heap.size,0,none⟩),.pointer (some ⟨w.heap.size+1,0,none⟩),.pointer (some ⟨w2.heap.size+1,0,none⟩)] fn92 w2.heap.size Jq HI.out (l.take (p.to+1)) aP cP p.c.a p.c.b 0 w.heap.size aS aH aF aL cS cH cF cL aT cT V (HWi.out.same fun j _ h=>hbV.block j h) hbV.size (by omega) (by omega) (HL.out.below hbV) (fun h0 ad e=>by
    rcases HL.out.at_ with h1|⟨b,o,e',hc⟩
    ·omega
    ·rw[e'] at e;cases e
     have:=cell_lt (hc 0 h0 0 _ rfl)
     dsimp only at this ⊢
     omega) (by rw[HLl.out];omega)
   (by rw[hJ];exact⟨(hb.block _ hz3).trans H13.out,(hb.block _ (lt_of_block HP3.out)).trans HP3.out,(hb.block _ hz4).trans H23.out,Hb23.out.trans (hb.mono Hb23.out.size)⟩)
   (fun k W W' hj hf=>by
    rw[hJ] at hj ⊢
    obtain⟨j1,j2,j3,j4⟩:=hj
    exact⟨(hf.block _ (lt_of_block j1) (by omega)).trans j1,(hf.block _ (lt_of_block j2) (by omega)).trans j2,(hf.block _ (lt_of_block j3) (by omega)).trans j3,j4.trans (hf.down j4.size (fun k hk=>by omega))⟩)
   (fun k x y W hj hk hx hy=>by
    rw[hJ] at hj
    obtain⟨j1,j2,j3,j4⟩:=hj
    refine(lit92 p aK cK w2.heap.size (w.heap.size+1) (w2.heap.size+1) _ k x y (U8 p) _ W w2 j1 j2 j3 HV2.out j4).mono ?_
    rintro e W' ⟨h1,h2,h3⟩
    refine⟨h1,?_,h3⟩
    rw[hJ]
    subst hx hy
    exact⟨h2,(h3.block _ (lt_of_block j2) (by omega)).trans j2,(h3.block _ (lt_of_block j3) (by omega)).trans j3,j4.trans (h3.down j4.size (fun k hk=>by omega))⟩)
  rw[HLl.out] at h
  refine h.mono ?_
  rintro e W' ⟨h1,h2,h3⟩
  rw[hJ] at h2
  refine⟨h1,by rw[HRr.out];exact h2.1,hbV.trans (h3.down hbV.size (fun k hk=>by omega))⟩
 obtain⟨y0,y1,y2,y3,y4,y5,ys⟩:=D5 HX3.out
 have c8:=(Ib HP3.out).2.2.1
 have k2:V3.cell? ⟨w.heap.size+1,2,none⟩=some (O J p.c.a):=by rw[cell_of_block HP3.out];rfl
 have k3:V3.cell? ⟨w.heap.size+1,3,none⟩=some (O J p.c.b):=by rw[cell_of_block HP3.out];rfl
 have hto2:wrap64 ((p.to:Int)+1)=((p.to+1:Nat):Int):=by unfold wrap64;omega
 have hto3:IntKind.i64.wrap ((p.to:Int)+1)=((p.to+1:Nat):Int):=by rw[IntKind.wrap_i64];omega
 clear HX3 HP3 H13 H23 Hb3 Hb23 HV2 HWi HL HLl HRr
 go_region_with (go_at_call 91;refine(HT.out _ (by exact⟨rfl,rfl,rfl,Nat.le_refl _,fun _ _=>rfl⟩)).mono ?_;rintro e w5 ⟨rfl,h5,hb5⟩)
 all_goals
  obtain⟨d0,-,dl⟩:=Af h5
  have Hb5:Hid (Below w.heap.size w w5):=hb5
  clear hb5 HT y0 y1 y2 y3 y4 y5 ys c8 k2 k3
  go_wp2
  go_ret2
  exact⟨rfl,Hb5.out⟩
end
end Go.Proofs.YthhgoenomehobaaGreat.mm
