/- Parts. -/
import Derived.Test.YthhgoenomehobaaGreatP40
import Derived.Test.YthhgoenomehobaaGreatP36
import Derived.Test.YthhgoenomehobaaGreatP38
import Derived.Test.YthhgoenomehobaaGreatP41
import Derived.BigQuiet
import Derived.Deep.QuietTactic
namespace Go.Proofs.YthhgoenomehobaaGreat.mm
set_option maxRecDepth 100000
set_option linter.unusedVariables false
open Go.Value renaming int → O, slice → Y
open Go.IntKind renaming i64 → J
open Go.Proofs.Tryz renaming prog → Pg
open Go renaming undef → Uz, World → Wq
open Go.ChangeShapes Go.WideShapes Go.ChangeAt Go.RowKit Go.Joins Go.Deep Go.Maps
set_option maxHeartbeats 1600000
section
def Iw(w:Wq)(W:Wd)(x:Pk)(e:Ending)(w':Wq):Prop :=
 ∃ v,e=.returned (.tuple #[v,O J (doE W x)])/\D8 w.heap.size w' v (if doE W x=0 then doW W x else w0W)/\Below w.heap.size w w'
theorem b3v{w:Wq}{lo2:Nat}{aT:Option Addr}{cT:Nat}{l:List (Tk × TkV)}(T:Xy w lo2 (Y aT l.length cT) l)(n1:1<=l.length)(n5:l.length<=5)(hm:∀ p∈l,p.1.held.length<=1000)(km:∀ p∈l,p.1.f.keys.length*16<=140737488351232) :
  ∃ g,aT=some ⟨g,0,none⟩/\Bo w lo2 g cT l/\∀ p∈l,∀ a,p.2.aK=some a->a.block<w.heap.size/\a.block≠g/\∀ q∈l,∀ b,q.2.aH=some b->a.block≠b.block:=by
 obtain⟨g,cap,hf⟩:=ownsRow_form T.row (by omega)
 injection hf with h1 h2 h3
 subst h1 h3
 have P:Oy w lo2 g cT l l.length:=⟨T.row,fun j hj _=>T.held _ (List.getElem_mem hj),fun j hj _=>T.keys _ (List.getElem_mem hj),fun i j hi hj _ _=>T.dj i j hi hj⟩
 refine⟨g,rfl,P.own (Nat.le_refl _) n5 hm km,fun p hp a ha=>?_⟩
 have h1:=(T.keys p hp).own
 rw[ha] at h1
 refine⟨(h1.lt a.block rfl).2,fun e=>Cf h1 T.row (by decide) a.block rfl (by rw[e];rfl),fun q hq b hb e=>?_⟩
 have h2:=T.held q hq
 rw[hb] at h2
 exact Cf h1 h2 (by decide) a.block rfl (by rw[e];rfl)
def H9:Code->Code
 | .seq _ b=>b
 | c=>c
def Np(B:Nat)(v0 v1 v11 v12:Value):Act:=⟨#[v0,v1,.pointer (some ⟨B,0,none⟩),.pointer (some ⟨B+1,0,none⟩),.pointer (some ⟨B+1+1,0,none⟩),O J 0,.func (.func 67) #[] #[],Uz,Uz,Uz,Uz,v11,v12,Uz,Uz,Uz,Uz,Uz,Uz,Uz,Uz,Uz,Uz,Uz,Uz,Uz,Uz,Uz,Uz,Uz,Uz,Uz,Uz,Uz,Uz,Uz,Uz,Uz,Uz,Uz,Uz,Uz,Uz,Uz,Uz,Uz,Uz,Uz,Uz,Uz,Uz,Uz,Uz,Uz,Uz,Uz,Uz,Uz,Uz,Uz,Uz,Uz,Uz,Uz,Uz,Uz,Uz,Uz,Uz,Uz,Uz,Uz,Uz,Uz,Uz,Uz,Uz,Uz,Uz,Uz,Uz,Uz,Uz,Uz,Uz,Uz,Uz,Uz,Uz,Uz,Uz,Uz,Uz,Uz,Uz,Uz,Uz,Uz,Uz,Uz,Uz,Uz,Uz,Uz,Uz,Uz,Uz,Uz,Uz,Uz,Uz,Uz,Uz,Uz,Uz,Uz,Uz,Uz,Uz,Uz,Uz,Uz,Uz,Uz,Uz,Uz,Uz,Uz,Uz,Uz,Uz,Uz,Uz,Uz,Uz,Uz,Uz,Uz,Uz,Uz,Uz,Uz,Uz,Uz,Uz,Uz,Uz,Uz,Uz,Uz,Uz,Uz,Uz,Uz,Uz,Uz,Uz,Uz,Uz,Uz,Uz,Uz,Uz,Uz,Uz,Uz,Uz,Uz,Uz,Uz,Uz,Uz,Uz,Uz,Uz,Uz,Uz,Uz,Uz,Uz,Uz,Uz,Uz,Uz,Uz,Uz,Uz,Uz,Uz,Uz,Uz,Uz,Uz,Uz,Uz,Uz,Uz,Uz,Uz,Uz,Uz,Uz,Uz,Uz,Uz,Uz,Uz,Uz,Uz,Uz,Uz,Uz,Uz,Uz,Uz,Uz,Uz,Uz,Uz,Uz,Uz,Uz,Uz,Uz,Uz,Uz,Uz,Uz,Uz,Uz,Uz,Uz,Uz,Uz,Uz,Uz,Uz,Uz,Uz,Uz,Uz,Uz,Uz,Uz,Uz,Uz,Uz,Uz,Uz,Uz,Uz,Uz,Uz,Uz,Uz,Uz,Uz,Uz,Uz,Uz,Uz,Uz,Uz],[]⟩
theorem Qq(E:Int)(w:Wq):Calls Pg 67 #[O J E] w fun e w'=>e=.returned (.tuple #[.agg #[Y none 0 0,Y none 0 0,Y none 0 0,Y none 0 0,O J 0,Y none 0 0],O J E])/\Below w.heap.size w w':=by
 have b0:Below w.heap.size w (w.alloc (.cells #[Y none 0 0,Y none 0 0,Y none 0 0,Y none 0 0,O J 0,Y none 0 0] 28)):=A7 w _
 have HZ0:(w.alloc (.cells #[Y none 0 0,Y none 0 0,Y none 0 0,Y none 0 0,O J 0,Y none 0 0] 28)).heap[w.heap.size]?=some (.cells #[Y none 0 0,Y none 0 0,Y none 0 0,Y none 0 0,O J 0,Y none 0 0] 28 (0,0)):=heap_alloc_new w _
 have t6:Hid ((w.alloc (.cells #[Y none 0 0,Y none 0 0,Y none 0 0,Y none 0 0,O J 0,Y none 0 0] 28)).there w.heap.size 0 6):=Az HZ0 (by simp)
 have HZ1:Hid (((w.alloc (.cells #[Y none 0 0,Y none 0 0,Y none 0 0,Y none 0 0,O J 0,Y none 0 0] 28)).setCells w.heap.size 0 [Y none 0 0,Y none 0 0,Y none 0 0,Y none 0 0,O J 0,Y none 0 0]).heap[w.heap.size]?=some (.cells #[Y none 0 0,Y none 0 0,Y none 0 0,Y none 0 0,O J 0,Y none 0 0] 28 (0,0))):=Bi HZ0 rfl
 have b1:Below w.heap.size w ((w.alloc (.cells #[Y none 0 0,Y none 0 0,Y none 0 0,Y none 0 0,O J 0,Y none 0 0] 28)).setCells w.heap.size 0 [Y none 0 0,Y none 0 0,Y none 0 0,Y none 0 0,O J 0,Y none 0 0]):=Aw b0 (Nat.le_refl _)
 clear HZ0 b0
 go_enter Tryz.func67,Tryz.ntmps67
 go_wp2_with (refine Gz rfl _ _ rfl rfl rfl t6.out (by kernel_rfl) ?_;clear t6)
 generalize (w.alloc _).setCells w.heap.size 0 _=W2 at *
 obtain⟨r0,r1,r2,r3,r4,r5,rs⟩:=Bc HZ1.out
 refine bodyPost_ret (v:=.tuple #[.agg #[Y none 0 0,Y none 0 0,Y none 0 0,Y none 0 0,O J 0,Y none 0 0],O J E]) (by simp[results,Tryz.results67,go_sem,r0,r1,r2,r3,r4,r5]) rfl ⟨rfl,b1⟩
theorem a7m{w W3 V:Wq}{W:Wd}{x:Pk}{E:Int}(Hb:Below w.heap.size w W3)(hE:doE W x=E)(h0:E≠0)(hb:Below W3.heap.size W3 V){n:Nat}(hn:w.heap.size<=n):Iw w W x (.returned (.tuple #[.agg #[Y none 0 0,Y none 0 0,Y none 0 0,Y none 0 0,O J 0,Y none 0 0],O J E])) (V.setCells n 0 [Y none 0 0,Y none 0 0,Y none 0 0,Y none 0 0,O J 0,Y none 0 0]):=by
 refine⟨_,by rw[hE],?_,Aw (Hb.trans (hb.mono Hb.size)) hn⟩
 rw[if_neg (by rw[hE];exact h0)]
 exact U5 _ _
theorem N9{w W3 V:Wq}{n0:Nat}{W WW:Wd}{x:Pk}(h:WP n0 w.heap.size WW W3 V)(HZ:W3.heap[w.heap.size+1+1]?=some (.cells #[Y none 0 0,Y none 0 0,Y none 0 0,Y none 0 0,O J 0,Y none 0 0] 28 (0,0)))(hn:w.heap.size+1+1<n0)(Hb:Below w.heap.size w W3)(hE:doE W x=0)(hW:WW=doW W x) :
  ∃ c0 c1 c2 c3 c4 c5,V.rangeAt w.heap.size 0 [c0,c1,c2,c3,c4,c5]/\V.there (w.heap.size+1+1) 0 6/\(#[c0,c1,c2,c3,c4,c5].all (·.oneCell'))=true/\(V.setCells (w.heap.size+1+1) 0 [c0,c1,c2,c3,c4,c5]).heap[w.heap.size+1+1]?=some (.cells #[c0,c1,c2,c3,c4,c5] 28 (0,0)) /\
   Iw w W x (.returned (.tuple #[.agg #[c0,c1,c2,c3,c4,c5],O J 0])) (V.setCells (w.heap.size+1+1) 0 [c0,c1,c2,c3,c4,c5]):=by
 obtain⟨aS2,aH2,aF2,aL2,cS2,cH2,cF2,cL2,aT2,cT2,l2,hbx,hA,hHi,hTr,hTh,hts,hK⟩:=h
 have HZ4:V.heap[w.heap.size+1+1]?=some (.cells #[Y none 0 0,Y none 0 0,Y none 0 0,Y none 0 0,O J 0,Y none 0 0] 28 (0,0)):=(hK.block _ hn (by omega)).trans HZ
 have ho5:∀ vs:List Value,∀ k,k≠w.heap.size+1+1->(V.setCells (w.heap.size+1+1) 0 vs).heap[k]?=V.heap[k]?:=fun vs k hk=>Ad hk _ _ _
 refine⟨Y aS2 WW.m.slots.length cS2,Y aH2 WW.m.heads.length cH2,Y aF2 WW.m.free.length cF2,Y aL2 WW.m.locks.length cL2,O J WW.m.now,Y aT2 l2.length cT2,Au hbx rfl,Az HZ4 (by simp),by kernel_rfl,Bi HZ4 rfl,?_⟩
 refine⟨_,congrArg (fun z=>Ending.returned (.tuple #[_,O J z])) hE.symm,?_,Aw (Hb.trans (hK.down (by omega) (Nat.le_refl _))) (by omega)⟩
 rw[if_pos hE,<- hW]
 refine⟨aS2,aH2,aF2,aL2,cS2,cH2,cF2,cL2,aT2,cT2,l2,by rw[<- hts,List.length_map],hA.off hHi (g:=w.heap.size+1+1) (by omega) (ho5 _),hHi.mono (by omega),hts.symm,?_,hTh.mono (by omega)⟩
 refine⟨hTr.le,hTr.max,hTr.nil,?_,fun p hp=>Ec (hTr.keys p hp) fun _ ad e _=>ho5 _ _ (by have:=hTh.keys p hp ad e;omega),fun p hp=>Sr (hTr.held p hp) fun ad e=>ho5 _ _ (by have:=hTh.held p hp ad e;omega)⟩
 rcases hTr.at_ with h0|⟨b,o,e,hc⟩
 ·exact .inl h0
 ·have hb':=ho5 [Y aS2 WW.m.slots.length cS2,Y aH2 WW.m.heads.length cH2,Y aF2 WW.m.free.length cF2,Y aL2 WW.m.locks.length cL2,O J WW.m.now,Y aT2 l2.length cT2] b (by have:=hTh.row _ e;dsimp only at this;omega)
  exact .inr ⟨b,o,e,fun i hi q hq=>(World.cell?_of_block (a:=⟨b,o+i*16+q,none⟩) hb').trans (hc i hi q hq)⟩
theorem Ya{W:Wd}(x:Pk)(aS aH aF aL:Option Addr)(cS cH cF cL:Nat)(aT:Option Addr)(cT:Nat)(w:Wq)(hv:D8 0 w (.agg #[Y aS W.m.slots.length cS,Y aH W.m.heads.length cH,Y aF W.m.free.length cF,Y aL W.m.locks.length cL,O J W.m.now,Y aT W.ts.length cT]) W)(hW:wE W=0)
  (HR:Hid (∀ (W3:Wq) (n0 lo2:Nat) (aS aH aF aL:Option Addr) (cS cH cF cL g cT n:Nat) (M:Mm) (l:List (Tk × TkV)),WM W3 n0 w.heap.size n0 lo2 aS aH aF aL cS cH cF cL M g cT n l->Ok M->wE ⟨M,l.map (·.1)⟩=0->W3.heap[w.heap.size+1]?=some (.cells #[O J x.task,.bool x.step,.bool x.tick,O J x.c.kind,O J x.c.a,O J x.c.b,O J x.c.time,O J x.c.bk,O J x.c.slot] 34 (0,0))->W3.heap[w.heap.size+2]?=some (.cells #[Y none 0 0,Y none 0 0,Y none 0 0,Y none 0 0,O J 0,Y none 0 0] 28 (0,0))->w.heap.size+2<n0->Below w.heap.size w W3 ->
   ∀ C,C=H9 (H9 (H9 (Tryz.f22.body.getD .skip)))->∀ v0 v1 v11 v12,Code.wp Pg C (bodyPost Pg Tryz.f22 (Iw w ⟨M,l.map (·.1)⟩ x)) (Np w.heap.size v0 v1 v11 v12) W3)) :
  Calls Pg 22 #[.agg #[Y aS W.m.slots.length cS,Y aH W.m.heads.length cH,Y aF W.m.free.length cF,Y aL W.m.locks.length cL,O J W.m.now,Y aT W.ts.length cT],.agg #[O J x.task,.bool x.step,.bool x.tick,O J x.c.kind,O J x.c.a,O J x.c.b,O J x.c.time,O J x.c.bk,O J x.c.slot]] w (Iw w W x):=by
 obtain⟨lt,A,hi,hts,hT,hTh⟩:=hv.parts
 have hl:lt.length=W.ts.length:=by rw[hts,List.length_map]
 obtain⟨ox,hox⟩:∃ o:Obj,o=.cells #[Y aS W.m.slots.length cS,Y aH W.m.heads.length cH,Y aF W.m.free.length cF,Y aL W.m.locks.length cL,O J W.m.now,Y aT W.ts.length cT] 28:=⟨_,rfl⟩
 obtain⟨oy,hoy⟩:∃ o:Obj,o=.cells #[O J x.task,.bool x.step,.bool x.tick,O J x.c.kind,O J x.c.a,O J x.c.b,O J x.c.time,O J x.c.bk,O J x.c.slot] 34:=⟨_,rfl⟩
 obtain⟨oz,hoz⟩:∃ o:Obj,o=.cells #[Y none 0 0,Y none 0 0,Y none 0 0,Y none 0 0,O J 0,Y none 0 0] 28:=⟨_,rfl⟩
 have z1:(w.alloc ox).heap.size=w.heap.size+1:=by simp
 have z2:((w.alloc ox).alloc oy).heap.size=w.heap.size+2:=by simp
 have b0:Below w.heap.size w (((w.alloc ox).alloc oy).alloc oz):=(below_alloc2 w ox oy).alloc (by omega) _
 have HX0:Hid ((((w.alloc ox).alloc oy).alloc oz).heap[w.heap.size]?=some ox):=by show _=_;rw[Below.heap_alloc _ _ _ (by omega),Below.heap_alloc _ _ _ (by omega),heap_alloc_new]
 have HY0:Hid ((((w.alloc ox).alloc oy).alloc oz).heap[w.heap.size+1]?=some oy):=by
  have:=heap_alloc_new (w.alloc ox) oy
  rw[z1] at this
  show _=_
  rw[Below.heap_alloc _ _ _ (by omega)];exact this
 have HZ0:Hid ((((w.alloc ox).alloc oy).alloc oz).heap[w.heap.size+2]?=some oz):=by
  have:=heap_alloc_new ((w.alloc ox).alloc oy) oz
  rwa [z2] at this
 have HwE:=Jd.1 hW
 have hM:Ok W.m:=(Ku W.m).1 HwE.1
 have Hkm:Hid (∀ t∈W.ts,t.held.length<=1000/\t.f.keys.length*16<=140737488351232):=fun t ht=>by
  rw[hts] at ht
  obtain⟨p,hp,rfl⟩:=List.mem_map.1 ht
  exact⟨by have:=(Oc.1 (HwE.2.2.2 p.1 (by rw[hts];exact List.mem_map.2 ⟨p,hp,rfl⟩))).1;omega,(hT.keys p hp).max⟩
 have HOwn:Hid (Calls Pg 14 #[.agg #[Y aS W.m.slots.length cS,Y aH W.m.heads.length cH,Y aF W.m.free.length cF,Y aL W.m.locks.length cL,O J W.m.now,Y aT W.ts.length cT]] (((w.alloc ox).alloc oy).alloc oz) (b3b (((w.alloc ox).alloc oy).alloc oz) W.m W.ts)):=by
  have h:=Rj W.m lt aS aH aF aL cS cH cF cL aT cT _ (A.below b0) (hT.below b0)
  rw[<- hts,hl] at h
  exact h
 have l6:Hid ((((w.alloc ox).alloc oy).alloc oz).rangeAt w.heap.size 0 [Y aS W.m.slots.length cS,Y aH W.m.heads.length cH,Y aF W.m.free.length cF,Y aL W.m.locks.length cL,O J W.m.now,Y aT W.ts.length cT]):=Au (HX0.out.trans (congrArg some hox)) rfl
 have Hn:Hid (1<=W.ts.length/\W.ts.length<=5):=⟨HwE.2.1,HwE.2.2.1⟩
 have HM:Hid (Ok W.m):=hM
 have HE:Hid (wE W=0):=hW
 clear hv A hi hT hTh HwE hM hW hts hl
 obtain⟨W0,hW0⟩:∃ W0,W0=((w.alloc ox).alloc oy).alloc oz:=⟨_,rfl⟩
 rw[<- hW0] at HX0 HY0 HZ0 HOwn l6 b0
 subst hox hoy hoz
 have HW0:Hid (W0=((w.alloc (.cells #[Y aS W.m.slots.length cS,Y aH W.m.heads.length cH,Y aF W.m.free.length cF,Y aL W.m.locks.length cL,O J W.m.now,Y aT W.ts.length cT] 28)).alloc (.cells #[O J x.task,.bool x.step,.bool x.tick,O J x.c.kind,O J x.c.a,O J x.c.b,O J x.c.time,O J x.c.bk,O J x.c.slot] 34)).alloc (.cells #[Y none 0 0,Y none 0 0,Y none 0 0,Y none 0 0,O J 0,Y none 0 0] 28)):=hW0
 clear hW0 z1 z2
 go_enter Tryz.func22,Tryz.ntmps22
 go_wp2_with (first|(rw[<- HW0.out];clear HW0)|(have h9:=l6.out;refine Ha rfl (.tmp 2) rfl rfl h9 ?_;clear h9 l6))
 refine HOwn.out.mono ?_
 rintro e w2 ⟨gS,gH,gF,gL,kS,kH,kF,kL,aT2,c1,l1,lo2,rfl,hR2,hL2,hT2,hm2,hlo2,hb2⟩
 have hl1:l1.length=W.ts.length:=by rw[<- hm2,List.length_map]
 obtain⟨g,rfl,hT3,hk3⟩:=b3v hT2 (by have:=Hn.out;omega) (by have:=Hn.out;omega) (fun p hp=>(Hkm.out p.1 (by rw[<- hm2];exact List.mem_map.2 ⟨p,hp,rfl⟩)).1) (fun p hp=>(Hkm.out p.1 (by rw[<- hm2];exact List.mem_map.2 ⟨p,hp,rfl⟩)).2)
 have hz0:w.heap.size+2<W0.heap.size:=lt_of_block HZ0.out
 have HX2:Hid (w2.heap[w.heap.size]?=_):=(hb2.block _ (lt_of_block HX0.out)).trans HX0.out
 have t6:Hid (w2.there w.heap.size 0 6):=Az HX2.out (by simp)
 have hwm:=b2z HM.out hR2 hL2 hT3 hk3 hlo2 (show w.heap.size<W0.heap.size by omega) HX2.out rfl
 have HY3:(w2.setCells w.heap.size 0 [Y gS W.m.slots.length kS,Y gH W.m.heads.length kH,Y gF W.m.free.length kF,Y gL W.m.locks.length kL,O J W.m.now,Y (some ⟨g,0,none⟩) l1.length c1]).heap[w.heap.size+1]?=_:=(Ad (by omega) _ _ _).trans ((hb2.block _ (lt_of_block HY0.out)).trans HY0.out)
 have HZ3:(w2.setCells w.heap.size 0 [Y gS W.m.slots.length kS,Y gH W.m.heads.length kH,Y gF W.m.free.length kF,Y gL W.m.locks.length kL,O J W.m.now,Y (some ⟨g,0,none⟩) l1.length c1]).heap[w.heap.size+2]?=_:=(Ad (by omega) _ _ _).trans ((hb2.block _ (lt_of_block HZ0.out)).trans HZ0.out)
 have b3:Below w.heap.size w (w2.setCells w.heap.size 0 [Y gS W.m.slots.length kS,Y gH W.m.heads.length kH,Y gF W.m.free.length kF,Y gL W.m.locks.length kL,O J W.m.now,Y (some ⟨g,0,none⟩) l1.length c1]):=Aw (b0.trans (hb2.mono b0.size)) (Nat.le_refl _)
 have HG:Hid (∀ C a,C=H9 (H9 (H9 (Tryz.f22.body.getD .skip)))->∀ v0 v1 v11 v12,a=Np w.heap.size v0 v1 v11 v12->Code.wp Pg C (bodyPost Pg Tryz.f22 (Iw w W x)) a (w2.setCells w.heap.size 0 [Y gS W.m.slots.length kS,Y gH W.m.heads.length kH,Y gF W.m.free.length kF,Y gL W.m.locks.length kL,O J W.m.now,Y (some ⟨g,0,none⟩) l1.length c1])):=fun C a hC v0 v1 v11 v12 ha=>by
  have hW':W=⟨W.m,l1.map (·.1)⟩:=by rw[hm2]
  rw[hW',ha]
  exact HR.out _ _ _ _ _ _ _ _ _ _ _ _ _ _ W.m l1 hwm HM.out (by rw[<- hW'];exact HE.out) HY3 HZ3 (by omega) b3 C hC v0 v1 v11 v12
 clear hR2 hL2 hT2 hm2 hlo2 hb2 hT3 hk3 hwm HY3 HZ3 b3 HX2 HY0 HZ0 HX0 HOwn hl1
 rename_i K1 hK1 K0 hK0
 have HK0:Hid _:=hK1
 clear hK1
 go_wp2_with (refine Gz rfl _ _ rfl rfl rfl t6.out (by kernel_rfl) ?_;clear t6)
 refine HK0.out _ _ (HG.out _ _ (by kernel_rfl) (.agg #[Y aS W.m.slots.length cS,Y aH W.m.heads.length cH,Y aF W.m.free.length cF,Y aL W.m.locks.length cL,O J W.m.now,Y aT W.ts.length cT]) (.agg #[O J x.task,.bool x.step,.bool x.tick,O J x.c.kind,O J x.c.a,O J x.c.b,O J x.c.time,O J x.c.bk,O J x.c.slot]) (.agg #[Y aS W.m.slots.length cS,Y aH W.m.heads.length cH,Y aF W.m.free.length cF,Y aL W.m.locks.length cL,O J W.m.now,Y aT W.ts.length cT]) (.agg #[Y gS W.m.slots.length kS,Y gH W.m.heads.length kH,Y gF W.m.free.length kF,Y gL W.m.locks.length kL,O J W.m.now,Y (some ⟨g,0,none⟩) l1.length c1]) (by kernel_rfl))
end
section
structure PkH(w W3:Wq)(n0 lo2:Nat)(aS aH aF aL:Option Addr)(cS cH cF cL g cT n:Nat)(M:Mm)(l:List (Tk × TkV))(x:Pk):Prop where
 wm:WM W3 n0 w.heap.size n0 lo2 aS aH aF aL cS cH cF cL M g cT n l
 ok:Ok M
 we:wE ⟨M,l.map (·.1)⟩=0
 bx:W3.heap[w.heap.size+1]?=some (.cells #[O J x.task,.bool x.step,.bool x.tick,O J x.c.kind,O J x.c.a,O J x.c.b,O J x.c.time,O J x.c.bk,O J x.c.slot] 34 (0,0))
 bz:W3.heap[w.heap.size+2]?=some (.cells #[Y none 0 0,Y none 0 0,Y none 0 0,Y none 0 0,O J 0,Y none 0 0] 28 (0,0))
 big:w.heap.size+2<n0
 bel:Below w.heap.size w W3
theorem Uj{w W3 V:Wq}{W:Wd}{x:Pk}{E:Int}(HZ:W3.heap[w.heap.size+2]?=some (.cells #[Y none 0 0,Y none 0 0,Y none 0 0,Y none 0 0,O J 0,Y none 0 0] 28 (0,0)))(Hb:Below w.heap.size w W3)(hE:doE W x=E)(h0:E≠0)(hb:Below W3.heap.size W3 V) :
  Hid (V.there (w.heap.size+1+1) 0 6)/\Hid ((V.setCells (w.heap.size+1+1) 0 [Y none 0 0,Y none 0 0,Y none 0 0,Y none 0 0,O J 0,Y none 0 0]).heap[w.heap.size+1+1]?=some (.cells #[Y none 0 0,Y none 0 0,Y none 0 0,Y none 0 0,O J 0,Y none 0 0] 28 (0,0)))/\Hid (Iw w W x (.returned (.tuple #[.agg #[Y none 0 0,Y none 0 0,Y none 0 0,Y none 0 0,O J 0,Y none 0 0],O J E])) (V.setCells (w.heap.size+1+1) 0 [Y none 0 0,Y none 0 0,Y none 0 0,Y none 0 0,O J 0,Y none 0 0])):=by
 have h:=(hb.block _ (lt_of_block HZ)).trans HZ
 exact⟨Az h (by simp),Bi h rfl,a7m Hb hE h0 hb (by omega)⟩
section
variable {w W3:Wq} {n0 lo2:Nat} {aS aH aF aL:Option Addr} {cS cH cF cL g cT n:Nat} {M:Mm} {l:List (Tk × TkV)} {x:Pk}
theorem b1o(h:PkH w W3 n0 lo2 aS aH aF aL cS cH cF cL g cT n M l x)(ht:x.tick=true)(hn:M.now=1000000)(v0 v1 v11 v12:Value) :
  Code.wp Pg (H9 (H9 (H9 (Tryz.f22.body.getD .skip)))) (bodyPost Pg Tryz.f22 (Iw w ⟨M,l.map (·.1)⟩ x)) (Np w.heap.size v0 v1 v11 v12) W3:=by
 have hE:Hid (doE ⟨M,l.map (·.1)⟩ x=7):=by show _=_;unfold doE;rw[if_pos ht,if_pos hn]
 obtain⟨x0,x1,x2,x3,x4,x5,x6,x7,x8,xs⟩:=P6 h.bx
 obtain⟨q0,q1,q2,q3,q4,q5,qs⟩:=Bc h.wm.m.box
 rw[ht] at x2
 rw[hn] at q4
 have HZ:Hid (W3.heap[w.heap.size+2]?=some (.cells #[Y none 0 0,Y none 0 0,Y none 0 0,Y none 0 0,O J 0,Y none 0 0] 28 (0,0))):=h.bz
 have Hb:Hid (Below w.heap.size w W3):=h.bel
 have HF:Hid (∀ V,Calls Pg 67 #[O J 7] V fun e w'=>e=.returned (.tuple #[.agg #[Y none 0 0,Y none 0 0,Y none 0 0,Y none 0 0,O J 0,Y none 0 0],O J 7])/\Below V.heap.size V w'):=fun V=>Qq 7 V
 clear h ht hn
 unfold Np
 conv=>arg 2;whnf
 go_wp2_with fail
 refine(HF.out _).mono ?_
 rintro e V ⟨rfl,hb⟩
 obtain⟨t6,r6,HR⟩:=Uj HZ.out Hb.out hE.out (by decide) hb
 clear HF hE Hb HZ hb x0 x1 x2 x3 x4 x5 x6 x7 x8 q0 q1 q2 q3 q4 q5
 go_wp2_with (refine Gz rfl _ _ rfl rfl rfl t6.out (by kernel_rfl) ?_;clear t6)
 generalize V.setCells (w.heap.size+1+1) 0 _=V2 at *
 obtain⟨r0,r1,r2,r3,r4,r5,rs⟩:=Bc r6.out
 refine bodyPost_ret (v:=.tuple #[.agg #[Y none 0 0,Y none 0 0,Y none 0 0,Y none 0 0,O J 0,Y none 0 0],O J 7]) (by simp[results,Tryz.results22,go_sem,r0,r1,r2,r3,r4,r5]) rfl HR.out
end
end
end Go.Proofs.YthhgoenomehobaaGreat.mm
