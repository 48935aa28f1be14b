/- Parts. -/
import Derived.Test.YthhgoenomehobaaGreatP05
import Derived.BigRegion
import Derived.Deep.QuietTactic
import Derived.BigQuiet
import Derived.Lib.QuietBelow
import Derived.ArgAppend
import Derived.Maps.AppendAt
import Derived.Test.YthhgoenomehobaaGreatP02
namespace Go.Proofs.YthhgoenomehobaaGreat.mm
set_option maxRecDepth 100000
set_option linter.unusedVariables false
open Go.Value renaming int → O, slice → Y
open Go.IntKind renaming i64 → J
open Go.Proofs.Tryz renaming prog → Pg
open Go renaming World → Wq
open Go.ChangeShapes Go.WideShapes Go.ChangeAt Go.RowKit Go.Joins
set_option maxHeartbeats 3200000
section
theorem E8{w:Wq}{lo size n g j:Nat}{e tt:TypeId}{v:Value}{xs:List Value}{cs:Array Value}(h:w.ownsRow lo e size v n xs)(hB:w.heap[g]?=some (.cells cs tt (0,0)))(ne:e≠tt)(u:Value):(w.setCell ⟨g,j,none⟩ u).ownsRow lo e size v n xs :=
 ownsRow_setCell_other h (own_ne h hB ne) u
theorem Uw{w w1:Wq}{lo lo1 size size1 n n1:Nat}{e e1:TypeId}{v v1:Value}{xs xs1:List Value}(h:w.ownsRow lo e size v n xs)(h1:w1.ownsRow lo1 e1 size1 v1 n1 xs1)(hl:w.heap.size<=lo1):Dj v v1:=by
 intro g hg hg1
 have:=(h.lt g hg).2
 have:=(h1.lt g hg1).1
 omega
theorem a7c(M:Mm)(aS aH aF aL:Option Addr)(cS cH cF cL:Nat)(w:Wq)(A:At w aS aH aF aL cS cH cF cL M) :
  Calls Pg 101 #[.agg #[Y aS M.slots.length cS,Y aH M.heads.length cH,Y aF M.free.length cF,Y aL M.locks.length cL,O J M.now]] w fun e w'=>∃ gS gH gF gL kS kH kF kL,
   e=.returned (.agg #[Y gS M.slots.length kS,Y gH M.heads.length kH,Y gF M.free.length kF,Y gL M.locks.length kL,O J M.now]) /\
   Rw w' w.heap.size gS gH gF gL kS kH kF kL M/\Below w.heap.size w w':=by
 obtain⟨S,H,F,L,now⟩:=M
 dsimp only
 have m1:=A.s.max;have m2:=A.h.max;have m3:=A.f.max;have m4:=A.l.max
 dsimp only at m1 m2 m3 m4
 obtain⟨o1,ho1⟩:∃ o:Obj,o=.cells #[Y aS S.length cS,Y aH H.length cH,Y aF F.length cF,Y aL L.length cL,O J now] 25:=⟨_,rfl⟩
 obtain⟨o2,ho2⟩:∃ o:Obj,o=.cells #[Y none 0 0,Y none 0 0,Y none 0 0,Y none 0 0,O J 0] 25:=⟨_,rfl⟩
 have B0:Below w.heap.size w ((w.alloc o1).alloc o2):=below_alloc2 w o1 o2
 have HB0:Hid (((w.alloc o1).alloc o2).heap[w.heap.size]?=some o1):=by show _=_;rw[Below.heap_alloc _ _ _ (by simp),heap_alloc_new]
 have HR0:Hid (((w.alloc o1).alloc o2).heap[w.heap.size+1]?=some o2):=by
  have:=heap_alloc_new (w.alloc o1) o2
  rwa [show (w.alloc o1).heap.size=w.heap.size+1 by simp] at this
 have z0:w.heap.size+2<=((w.alloc o1).alloc o2).heap.size:=by simp
 have HA:Hid (At w aS aH aF aL cS cH cF cL ⟨S,H,F,L,now⟩):=A
 clear A
 go_enter Tryz.func101,Tryz.ntmps101
 go_wp2_with fail
 rw[<- ho1,<- ho2]
 generalize (w.alloc o1).alloc o2=W0 at *
 subst ho1 ho2
 have HA0:Hid _:=HA.out.below B0
 refine(a4x aS cS S W0 HA0.out.s).mono ?_
 rintro e w1 ⟨gS,kS,rfl,ownS,hb1⟩
 have b1:=B0.trans (hb1.mono B0.size)
 have HBx1:Hid (w1.heap[w.heap.size]?=_):=(hb1.block w.heap.size (lt_of_block HB0.out)).trans HB0.out
 have HRx1:Hid (w1.heap[w.heap.size+1]?=_):=(hb1.block (w.heap.size+1) (lt_of_block HR0.out)).trans HR0.out
 have zx1:w.heap.size+2<=w1.heap.size:=Nat.le_trans z0 hb1.size
 have OSx1:Hid (w1.ownsRow w.heap.size 64 6 (Y gS S.length kS) S.length (encS S)):=ownsRow_le ownS (by omega)
 clear ownS hb1 HA0 HB0 HR0 
 obtain⟨q0,q1,q2,q3,q4,f0,f1,f2,f3,f4,qs⟩:=Af HBx1.out
 have B1:Below w.heap.size w (w1.setCell ⟨w.heap.size,0,none⟩ (Y gS S.length kS)):=b1.setCell (Nat.le_refl _) _
 have HB1:Hid ((w1.setCell ⟨w.heap.size,0,none⟩ (Y gS S.length kS)).heap[w.heap.size]?=some (.cells #[Y gS S.length kS,Y aH H.length cH,Y aF F.length cF,Y aL L.length cL,O J now] 25 (0,0))):=by
  have:=block_setCell (i:=0) HBx1.out (Y gS S.length kS)
  show _=_
  simpa using this
 have HR1:Hid ((w1.setCell ⟨w.heap.size,0,none⟩ (Y gS S.length kS)).heap[w.heap.size+1]?=_):=(Below.heap_setCell w1 ⟨w.heap.size,0,none⟩ (Y gS S.length kS) (w.heap.size+1) (by show w.heap.size+1≠w.heap.size;omega)).trans HRx1.out
 have z1:w.heap.size+2<=(w1.setCell ⟨w.heap.size,0,none⟩ (Y gS S.length kS)).heap.size:=by rw[World.size_setCell];exact zx1
 have OS1:Hid ((w1.setCell ⟨w.heap.size,0,none⟩ (Y gS S.length kS)).ownsRow w.heap.size 64 6 (Y gS S.length kS) S.length (encS S)):=E8 OSx1.out HBx1.out (by first|decide|exact Ex.ne _ _ (by decide)) _
 clear zx1 HRx1 OSx1 B0 b1 z0
 go_wp2_with fail
 generalize w1.setCell ⟨w.heap.size,0,none⟩ (Y gS S.length kS)=W1 at *
 clear q0 q1 q2 q3 q4 f0 f1 f2 f3 f4 qs HBx1
 have HA1:Hid _:=HA.out.below B1
 refine(Oi aH cH H W1 HA1.out.h).mono ?_
 rintro e w2 ⟨gH,kH,rfl,ownH,hb2⟩
 have b2:=B1.trans (hb2.mono B1.size)
 have HBx2:Hid (w2.heap[w.heap.size]?=_):=(hb2.block w.heap.size (lt_of_block HB1.out)).trans HB1.out
 have HRx2:Hid (w2.heap[w.heap.size+1]?=_):=(hb2.block (w.heap.size+1) (lt_of_block HR1.out)).trans HR1.out
 have zx2:w.heap.size+2<=w2.heap.size:=Nat.le_trans z1 hb2.size
 have OSx2:Hid (w2.ownsRow w.heap.size 64 6 (Y gS S.length kS) S.length (encS S)):=own_below OS1.out hb2
 have OHx2:Hid (w2.ownsRow w.heap.size 3 1 (Y gH H.length kH) H.length (encI H)):=ownsRow_le ownH (by omega)
 clear ownH hb2 HA1 HB1 HR1 OS1
 obtain⟨q0,q1,q2,q3,q4,f0,f1,f2,f3,f4,qs⟩:=Af HBx2.out
 have B2:Below w.heap.size w (w2.setCell ⟨w.heap.size,1,none⟩ (Y gH H.length kH)):=b2.setCell (Nat.le_refl _) _
 have HB2:Hid ((w2.setCell ⟨w.heap.size,1,none⟩ (Y gH H.length kH)).heap[w.heap.size]?=some (.cells #[Y gS S.length kS,Y gH H.length kH,Y aF F.length cF,Y aL L.length cL,O J now] 25 (0,0))):=by
  have:=block_setCell (i:=1) HBx2.out (Y gH H.length kH)
  show _=_
  simpa using this
 have HR2:Hid ((w2.setCell ⟨w.heap.size,1,none⟩ (Y gH H.length kH)).heap[w.heap.size+1]?=_):=(Below.heap_setCell w2 ⟨w.heap.size,1,none⟩ (Y gH H.length kH) (w.heap.size+1) (by show w.heap.size+1≠w.heap.size;omega)).trans HRx2.out
 have z2:w.heap.size+2<=(w2.setCell ⟨w.heap.size,1,none⟩ (Y gH H.length kH)).heap.size:=by rw[World.size_setCell];exact zx2
 have OS2:Hid ((w2.setCell ⟨w.heap.size,1,none⟩ (Y gH H.length kH)).ownsRow w.heap.size 64 6 (Y gS S.length kS) S.length (encS S)):=E8 OSx2.out HBx2.out (by first|decide|exact Ex.ne _ _ (by decide)) _
 have OH2:Hid ((w2.setCell ⟨w.heap.size,1,none⟩ (Y gH H.length kH)).ownsRow w.heap.size 3 1 (Y gH H.length kH) H.length (encI H)):=E8 OHx2.out HBx2.out (by first|decide|exact Ex.ne _ _ (by decide)) _
 clear zx2 HRx2 OSx2 OHx2 B1 b2 z1
 go_wp2_with fail
 generalize w2.setCell ⟨w.heap.size,1,none⟩ (Y gH H.length kH)=W2 at *
 clear q0 q1 q2 q3 q4 f0 f1 f2 f3 f4 qs HBx2
 have HA2:Hid _:=HA.out.below B2
 refine(Oi aF cF F W2 HA2.out.f).mono ?_
 rintro e w3 ⟨gF,kF,rfl,ownF,hb3⟩
 have b3:=B2.trans (hb3.mono B2.size)
 have HBx3:Hid (w3.heap[w.heap.size]?=_):=(hb3.block w.heap.size (lt_of_block HB2.out)).trans HB2.out
 have HRx3:Hid (w3.heap[w.heap.size+1]?=_):=(hb3.block (w.heap.size+1) (lt_of_block HR2.out)).trans HR2.out
 have zx3:w.heap.size+2<=w3.heap.size:=Nat.le_trans z2 hb3.size
 have OSx3:Hid (w3.ownsRow w.heap.size 64 6 (Y gS S.length kS) S.length (encS S)):=own_below OS2.out hb3
 have OHx3:Hid (w3.ownsRow w.heap.size 3 1 (Y gH H.length kH) H.length (encI H)):=own_below OH2.out hb3
 have OFx3:Hid (w3.ownsRow w.heap.size 3 1 (Y gF F.length kF) F.length (encI F)):=ownsRow_le ownF (by omega)
 have DHF:Dj (Y gH H.length kH) (Y gF F.length kF):=Uw OH2.out ownF (Nat.le_refl _)
 clear ownF hb3 HA2 HB2 HR2 OS2 OH2
 obtain⟨q0,q1,q2,q3,q4,f0,f1,f2,f3,f4,qs⟩:=Af HBx3.out
 have B3:Below w.heap.size w (w3.setCell ⟨w.heap.size,2,none⟩ (Y gF F.length kF)):=b3.setCell (Nat.le_refl _) _
 have HB3:Hid ((w3.setCell ⟨w.heap.size,2,none⟩ (Y gF F.length kF)).heap[w.heap.size]?=some (.cells #[Y gS S.length kS,Y gH H.length kH,Y gF F.length kF,Y aL L.length cL,O J now] 25 (0,0))):=by
  have:=block_setCell (i:=2) HBx3.out (Y gF F.length kF)
  show _=_
  simpa using this
 have HR3:Hid ((w3.setCell ⟨w.heap.size,2,none⟩ (Y gF F.length kF)).heap[w.heap.size+1]?=_):=(Below.heap_setCell w3 ⟨w.heap.size,2,none⟩ (Y gF F.length kF) (w.heap.size+1) (by show w.heap.size+1≠w.heap.size;omega)).trans HRx3.out
 have z3:w.heap.size+2<=(w3.setCell ⟨w.heap.size,2,none⟩ (Y gF F.length kF)).heap.size:=by rw[World.size_setCell];exact zx3
 have OS3:Hid ((w3.setCell ⟨w.heap.size,2,none⟩ (Y gF F.length kF)).ownsRow w.heap.size 64 6 (Y gS S.length kS) S.length (encS S)):=E8 OSx3.out HBx3.out (by first|decide|exact Ex.ne _ _ (by decide)) _
 have OH3:Hid ((w3.setCell ⟨w.heap.size,2,none⟩ (Y gF F.length kF)).ownsRow w.heap.size 3 1 (Y gH H.length kH) H.length (encI H)):=E8 OHx3.out HBx3.out (by first|decide|exact Ex.ne _ _ (by decide)) _
 have OF3:Hid ((w3.setCell ⟨w.heap.size,2,none⟩ (Y gF F.length kF)).ownsRow w.heap.size 3 1 (Y gF F.length kF) F.length (encI F)):=E8 OFx3.out HBx3.out (by first|decide|exact Ex.ne _ _ (by decide)) _
 clear zx3 HRx3 OSx3 OHx3 OFx3 B2 b3 z2
 go_wp2_with fail
 generalize w3.setCell ⟨w.heap.size,2,none⟩ (Y gF F.length kF)=W3 at *
 clear q0 q1 q2 q3 q4 f0 f1 f2 f3 f4 qs HBx3
 have HA3:Hid _:=HA.out.below B3
 refine(Oi aL cL L W3 HA3.out.l).mono ?_
 rintro e w4 ⟨gL,kL,rfl,ownL,hb4⟩
 have b4:=B3.trans (hb4.mono B3.size)
 have HBx4:Hid (w4.heap[w.heap.size]?=_):=(hb4.block w.heap.size (lt_of_block HB3.out)).trans HB3.out
 have HRx4:Hid (w4.heap[w.heap.size+1]?=_):=(hb4.block (w.heap.size+1) (lt_of_block HR3.out)).trans HR3.out
 have zx4:w.heap.size+2<=w4.heap.size:=Nat.le_trans z3 hb4.size
 have OSx4:Hid (w4.ownsRow w.heap.size 64 6 (Y gS S.length kS) S.length (encS S)):=own_below OS3.out hb4
 have OHx4:Hid (w4.ownsRow w.heap.size 3 1 (Y gH H.length kH) H.length (encI H)):=own_below OH3.out hb4
 have OFx4:Hid (w4.ownsRow w.heap.size 3 1 (Y gF F.length kF) F.length (encI F)):=own_below OF3.out hb4
 have OLx4:Hid (w4.ownsRow w.heap.size 3 1 (Y gL L.length kL) L.length (encI L)):=ownsRow_le ownL (by omega)
 have DHL:Dj (Y gH H.length kH) (Y gL L.length kL):=Uw OH3.out ownL (Nat.le_refl _)
 have DFL:Dj (Y gF F.length kF) (Y gL L.length kL):=Uw OF3.out ownL (Nat.le_refl _)
 clear ownL hb4 HA3 HB3 HR3 OS3 OH3 OF3
 obtain⟨q0,q1,q2,q3,q4,f0,f1,f2,f3,f4,qs⟩:=Af HBx4.out
 obtain⟨r0,r1,r2,r3,r4,g0,g1,g2,g3,g4,rs⟩:=Af HRx4.out
 have rs0:w.heap.size+1≠w.heap.size:=by omega
 have HF:Hid (Rw (mm.Hu (w4.setCell ⟨w.heap.size,3,none⟩ (Y gL L.length kL)) (w.heap.size+1) (Y gS S.length kS) (Y gH H.length kH) (Y gF F.length kF) (Y gL L.length kL) (O J now)) w.heap.size gS gH gF gL kS kH kF kL ⟨S,H,F,L,now⟩):=by
  have hR:(w4.setCell ⟨w.heap.size,3,none⟩ (Y gL L.length kL)).heap[w.heap.size+1]?=_:=(Below.heap_setCell w4 ⟨w.heap.size,3,none⟩ (Y gL L.length kL) (w.heap.size+1) (by show w.heap.size+1≠w.heap.size;omega)).trans HRx4.out
  have r:Rw (w4.setCell ⟨w.heap.size,3,none⟩ (Y gL L.length kL)) w.heap.size gS gH gF gL kS kH kF kL ⟨S,H,F,L,now⟩ :=
   ⟨E8 OSx4.out HBx4.out (by first|decide|exact Ex.ne _ _ (by decide)) _,E8 OHx4.out HBx4.out (by first|decide|exact Ex.ne _ _ (by decide)) _,E8 OFx4.out HBx4.out (by first|decide|exact Ex.ne _ _ (by decide)) _,E8 OLx4.out HBx4.out (by first|decide|exact Ex.ne _ _ (by decide)) _,DHF,DHL,DFL,by rw[World.size_setCell];omega⟩
  exact r.Hu (Xb:=X0) hR _ _ _ _ _
 clear OSx4 OHx4 OFx4 OLx4 HBx4 HRx4 z3
 go_wp2
 refine bodyPost_ret (v:=.agg #[Y gS S.length kS,Y gH H.length kH,Y gF F.length kF,Y gL L.length kL,O J now]) (by simp[results,Tryz.results101,go_sem,r0,r1,r2,r3,r4]) rfl ⟨_,_,_,_,_,_,_,_,rfl,HF.out,?_⟩
 exact(b4.setCell (Nat.le_refl _) _).trans (Jl _ _ _ _ _ _ _ _ (by omega))
end
section
open Go.Deep Go.Sort
variable {Xb:Ex}
def Ir(w:Wq)(g o:Nat)(s:Sl):Wq :=
 (((((w.setCell ⟨g,o,none⟩ (O J s.refs)).setCell ⟨g,o+1,none⟩ (O J s.a)).setCell ⟨g,o+2,none⟩ (O J s.b)).setCell ⟨g,o+3,none⟩ (O J s.unt)).setCell ⟨g,o+4,none⟩ (.bool s.inn)).setCell ⟨g,o+5,none⟩ (O J s.next)
theorem a4j(S:List Sl)(j:Nat)(h:j<S.length)(s:Sl) :
  ((((((encS S).set (j*6) (O J s.refs)).set (j*6+1) (O J s.a)).set (j*6+2) (O J s.b)).set (j*6+3) (O J s.unt)).set (j*6+4) (.bool s.inn)).set (j*6+5) (O J s.next)=encS (S.set j s):=by
 induction S generalizing j with
 | nil=>simp at h
 | cons x S ih =>
  match j with
  | 0=>simp[Dw,Sl.enc]
  | j+1 =>
   have:=ih j (by simpa using h)
   rw[List.set_cons_succ,Dw,Dw,<- this]
   simp only[Sl.enc,List.cons_append,List.nil_append,show (j+1)*6=j*6+6 by omega,show j*6+6+1=j*6+1+6 by omega,show j*6+6+2=j*6+2+6 by omega,show j*6+6+3=j*6+3+6 by omega,show j*6+6+4=j*6+4+6 by omega,show j*6+6+5=j*6+5+6 by omega,List.set_cons_succ]
theorem a4h(S:List Sl)(j:Nat)(h:j<S.length)(r:Int):(encS S).set (j*6) (O J r)=encS (S.set j { S[j] with refs:=r }):=by
 induction S generalizing j with
 | nil=>simp at h
 | cons x S ih =>
  match j with
  | 0=>simp[Dw,Sl.enc]
  | j+1 =>
   have:=ih j (by simpa using h)
   rw[List.set_cons_succ,Dw,Dw,List.getElem_cons_succ,<- this]
   simp only[Sl.enc,List.cons_append,List.nil_append,show (j+1)*6=j*6+6 by omega,List.set_cons_succ]
theorem Mine.Ir{w:Wq}{B lo g j:Nat}{aH aF aL:Option Addr}{cS cH cF cL:Nat}{M:Mm}(m:Mine Xb w B lo (some ⟨g,0,none⟩) aH aF aL cS cH cF cL M)(h:j<M.slots.length)(s:Sl) :
  Mine Xb (mm.Ir w g (j*6) s) B lo (some ⟨g,0,none⟩) aH aF aL cS cH cF cL { M with slots:=M.slots.set j s }:=by
 obtain⟨hB,⟨hs,hh,f,l,hf,hl',fl,lz⟩,m1,m2,m3,m4⟩:=m
 have hg:(Value.slice (some ⟨g,0,none⟩) M.slots.length cS).ownBlock=some g:=rfl
 have ne:∀ {v:Value} {n:Nat} {xs:List Value},w.ownsRow lo 3 1 v n xs->v.ownBlock≠some g:=fun h e=>Cf h hs (by first|decide|exact Ex.ne _ _ (by decide)) g e hg
 have oth:∀ {v:Value} {n:Nat} {xs:List Value},w.ownsRow lo 3 1 v n xs->(mm.Ir w g (j*6) s).ownsRow lo 3 1 v n xs:=fun h=>by
  have:=ne h
  unfold mm.Ir
  iterate 6 (refine ownsRow_setCell_other ?_ this _)
  exact h
 have hne:B≠g:=fun e=>own_ne hs hB (by first|decide|exact Ex.ne _ _ (by decide)) (by rw[hg,e])
 refine⟨?_,⟨?_,oth hh,oth f,oth l,hf,hl',fl,by simp only[mm.Ir,World.size_setCell];exact lz⟩,by dsimp only;rw[List.length_set];exact m1,m2,m3,m4⟩
 ·dsimp only
  rw[List.length_set]
  unfold mm.Ir
  repeat rw[Below.heap_setCell _ _ _ _ (by dsimp only;exact hne)]
  exact hB
 ·dsimp only
  rw[List.length_set,<- a4j M.slots j h s]
  unfold mm.Ir
  exact((((((hs.stored _ _).1.stored _ _).1.stored _ _).1.stored _ _).1.stored _ _).1.stored _ _).1
theorem Kept.Ir{w w1:Wq}{B lo g o:Nat}(h:Kept w w1 B lo)(hg:lo<=g)(s:Sl):Kept w (mm.Ir w1 g o s) B lo:=by
 unfold mm.Ir
 iterate 6 (refine Kept.setCell ?_ hg _)
 exact h
theorem Df{w:Wq}{lo g n cap:Nat}{S:List Sl}(h:w.ownsRow lo 64 6 (Y (some ⟨g,0,none⟩) n cap) n (encS S)){j:Nat}(hj:j<S.length) :
  w.cell? ⟨g,j*6,none⟩=some (O J S[j].refs)/\w.cell? ⟨g,j*6+1,none⟩=some (O J S[j].a)/\w.cell? ⟨g,j*6+2,none⟩=some (O J S[j].b) /\
  w.cell? ⟨g,j*6+3,none⟩=some (O J S[j].unt)/\w.cell? ⟨g,j*6+4,none⟩=some (.bool S[j].inn)/\w.cell? ⟨g,j*6+5,none⟩=some (O J S[j].next)/\∀ q,w.frozen? ⟨g,q,none⟩=false:=by
 have hn:S.length*6=n*6:=by rw[<- h.1,Hm]
 have e:∀ q,q<6->w.cell? ⟨g,j*6+q,none⟩=(S[j].enc)[q]?:=fun q hq=>by
  rw[h.cellAt _ (by omega),Qn S j q hj hq]
 exact⟨e 0 (by omega),e 1 (by omega),e 2 (by omega),e 3 (by omega),e 4 (by omega),e 5 (by omega),fun q=>h.frozenAt q⟩
theorem Fe{w:Wq}{lo g n cap:Nat}{l:List Int}(h:w.ownsRow lo 3 1 (Y (some ⟨g,0,none⟩) n cap) n (encI l)){j:Nat}(hj:j<l.length) :
  w.cell? ⟨g,j,none⟩=some (O J l[j])/\w.frozen? ⟨g,j,none⟩=false:=by
 have hn:l.length=n*1:=by rw[<- h.1,Dq]
 exact⟨by rw[h.cellAt _ (by omega)];simp[encI,hj],h.frozenAt j⟩
theorem Bh{w:Wq}{lo size n cap:Nat}{ao:Option Addr}{e:TypeId}{xs:List Value}(h:w.ownsRow lo e size (Y ao n cap) n xs)(hn:0<n):∃ g,ao=some ⟨g,0,none⟩/\lo<=g/\g<w.heap.size/\n<=cap/\cap<=9223372036854775807:=by
 rcases h.2 with ⟨_,h0⟩|⟨g,cap',cur,hv,hg,hb,hc,hm,_⟩
 ·omega
 ·injection hv with h1 _ h3
  subst h1 h3
  exact⟨g,rfl,hg,lt_of_block hb,hc,by unfold maxLen at hm;exact hm⟩
theorem b2j(w:Wq)(B lo gS gF n j cS cH cF cL:Nat)(aH aL:Option Addr)(M:Mm)(ka kb u:Int)
  (m:Mine Xb w B lo (some ⟨gS,0,none⟩) aH (some ⟨gF,0,none⟩) aL cS cH cF cL M) (hF:M.free.length=n+1) (hj:j<M.slots.length) (hx:M.free[n]'(by omega)=j) (hn:n+1<=cF) (hc:cF<=9223372036854775807) :
  Calls Pg 203 #[.pointer (some ⟨B,0,none⟩),.agg #[O J ka,O J kb],O J u] w fun e w'=>e=.returned (.tuple #[O J j,.bool true]) /\
   ∃ w1,Below w.heap.size w w1/\w'=(mm.Ir (w1.setCell ⟨B,2,none⟩ (Y (some ⟨gF,0,none⟩) n cF)) gS (j*6) ⟨1,ka,kb,u,false,M.slots[j].next⟩).drew:=by
 have hn':n<=cF:=by omega
 have hS:M.slots.length<=9223372036854775807:=by have:=m.m1;omega
 have hv:inB (j:Int) 0 ((M.slots.length:Int) - 1)=true:=(Aj _ _ _).2 (by omega)
 have HHs:Hid (∀ W:Wq,Calls Pg 111 #[.agg #[Y (some ⟨gS,0,none⟩) M.slots.length cS,Y aH M.heads.length cH,Y (some ⟨gF,0,none⟩) M.free.length cF,Y aL M.locks.length cL,O J M.now],O J j] W fun e w'=>e=.returned (.bool true)/\Below W.heap.size W w'):=fun W=>hv ▸ Ed _ aH _ aL _ _ _ _ cS cH cF cL M.now j W hS
 obtain⟨s,hs⟩:∃ s,s=M.slots[j]:=⟨_,rfl⟩
 have HS:Hid (M.slots[j]=s):=hs.symm
 have HX:Hid (∀ W,Mine Xb W B lo (some ⟨gS,0,none⟩) aH (some ⟨gF,0,none⟩) aL cS cH cF cL M->(W.cell? ⟨gS,j*6,none⟩=some (O J s.refs)/\W.cell? ⟨gS,j*6+1,none⟩=some (O J s.a)/\W.cell? ⟨gS,j*6+2,none⟩=some (O J s.b)/\W.cell? ⟨gS,j*6+3,none⟩=some (O J s.unt)/\W.cell? ⟨gS,j*6+4,none⟩=some (.bool s.inn)/\W.cell? ⟨gS,j*6+5,none⟩=some (O J s.next)/\∀ q,W.frozen? ⟨gS,q,none⟩=false)/\W.cell? ⟨gF,n,none⟩=some (O J j)):=fun W m'=>by
  have:=(Fe m'.c.f (j:=n) (by omega)).1
  rw[hx] at this
  rw[hs]
  exact⟨Df m'.c.s hj,this⟩
 have HD:Hid (∀ W,Mine Xb W B lo (some ⟨gS,0,none⟩) aH (some ⟨gF,0,none⟩) aL cS cH cF cL M->B≠gS/\B≠gF/\gS<W.heap.size/\gF<W.heap.size/\W.heap[B]?=some (.cells (List.toArray (Y (some ⟨gS,0,none⟩) M.slots.length cS :: Y aH M.heads.length cH :: Y (some ⟨gF,0,none⟩) M.free.length cF :: Y aL M.locks.length cL :: O J M.now :: Xb.rs)) Xb.rt (0,0))):=fun W m' =>
  ⟨(fun e=>own_ne m'.c.s m'.box (by first|decide|exact Ex.ne _ _ (by decide)) (by rw[e];rfl)),(fun e=>own_ne m'.c.f m'.box (by first|decide|exact Ex.ne _ _ (by decide)) (by rw[e];rfl)),(m'.c.s.lt _ rfl).2,(m'.c.f.lt _ rfl).2,m'.box⟩
 obtain⟨ok,hok⟩:∃ o:Obj,o=.cells #[O J ka,O J kb] 30:=⟨_,rfl⟩
 have HM:Hid (Mine Xb (w.alloc ok) B lo (some ⟨gS,0,none⟩) aH (some ⟨gF,0,none⟩) aL cS cH cF cL M):=m.below (A7 _ _)
 have HB:Hid (Below w.heap.size w (w.alloc ok)):=A7 _ _
 have HK:Hid ((w.alloc ok).heap[w.heap.size]?=some (.cells #[O J ka,O J kb] 30 (0,0))):=hok ▸ heap_alloc_new w ok
 obtain⟨-,-,-,-,hB⟩:=HD.out _ m
 obtain⟨-,-,q2,-,-,-,-,-,-,-,qs⟩:=Af hB
 rw[hF] at q2
 have hnl:n<M.free.length:=by omega
 have HFl:Hid (M.free.length=n+1):=hF
 have HQ:Hid (w.heap.size≠B):=by show _≠_;omega
 clear m hx hv hB hs hF
 go_enter Tryz.func203,Tryz.ntmps203
 go_wp2_with fail
 rw[<- hok]
 clear q2 qs
 generalize w.alloc ok=W0 at *
 clear hok
 obtain⟨d1,d2,l1,l2,hB⟩:=HD.out _ HM.out
 obtain⟨q0,q1,q2,q3,q4,-,-,-,-,-,qs⟩:=Af hB
 obtain⟨-,cx⟩:=HX.out _ HM.out
 have cB:∀ (d:Nat) (os:Array Obj),Calls Pg 111 #[.agg #[Y (some ⟨gS,0,none⟩) M.slots.length cS,Y aH M.heads.length cH,Y (some ⟨gF,0,none⟩) M.free.length cF,Y aL M.locks.length cL,O J M.now],O J j] (grow (redrawn W0 d) os) fun e w''=>e=.returned (.bool true)/\∃ p:Regrown,w''=grow (redrawn W0 p.d) p.os:=fun d os=>Calls.regrown_of (HHs.out _)
 have Q0:=cell_regrown q0;have Q1:=cell_regrown q1;have Q2:=cell_regrown q2;have Q3:=cell_regrown q3;have Q4:=cell_regrown q4;have QX:=cell_regrown cx
 clear q0 q1 q2 q3 q4 qs cx hB
 refine wp_region_quiet_below (by kernel_rfl) (by kernel_rfl) ?_
 repeat (quiet_step (first|exact cB _ _))
 refine wpQuiet_nil ?_
 intro _ hw'
 obtain⟨⟨dq,osq⟩,hw''⟩:=hw'
 subst hw''
 have HB1:Hid _:=below_regrown W0 dq osq
 generalize grow (redrawn W0 dq) osq=w1 at *
 clear cB Q0 Q1 Q2 Q3 Q4 QX d1 d2 l1 l2 HHs
 have HM1:Hid (Mine Xb w1 B lo (some ⟨gS,0,none⟩) aH (some ⟨gF,0,none⟩) aL cS cH cF cL M):=HM.out.below HB1.out
 have HK1:Hid (w1.heap[w.heap.size]?=some (.cells #[O J ka,O J kb] 30 (0,0))):=(HB1.out.block _ (lt_of_block HK.out)).trans HK.out
 have HB2:Hid (Below w.heap.size w w1):=HB.out.trans (HB1.out.mono HB.out.size)
 clear HB1 HM HK HB
 have HM2:Hid (Mine Xb (w1.setCell ⟨B,2,none⟩ (Y (some ⟨gF,0,none⟩) n cF)) B lo (some ⟨gS,0,none⟩) aH (some ⟨gF,0,none⟩) aL cS cH cF cL { M with free:=M.free.take n }):=HM1.out.pop HFl.out
 have HK2:Hid ((w1.setCell ⟨B,2,none⟩ (Y (some ⟨gF,0,none⟩) n cF)).heap[w.heap.size]?=some (.cells #[O J ka,O J kb] 30 (0,0))):=(Below.heap_setCell _ _ _ _ (by dsimp only;exact HQ.out)).trans HK1.out
 have HW:Hid (∃ w2,Below w.heap.size w w2/\w1.setCell ⟨B,2,none⟩ (Y (some ⟨gF,0,none⟩) n cF)=w2.setCell ⟨B,2,none⟩ (Y (some ⟨gF,0,none⟩) n cF)):=⟨w1,HB2.out,rfl⟩
 obtain⟨d1,d2,l1,l2,hB⟩:=HD.out _ HM1.out
 obtain⟨q0,q1,q2,q3,q4,f0,f1,f2,f3,f4,qs⟩:=Af hB
 obtain⟨-,cx⟩:=HX.out _ HM1.out
 clear hB HD HX HM1 HK1 HB2
 go_wp2
 clear q0 q1 q2 q3 q4 f0 f1 f2 f3 f4 qs cx l1 l2
 generalize w1.setCell ⟨B,2,none⟩ (Y (some ⟨gF,0,none⟩) n cF)=w2 at *
 obtain⟨q0,-,-,-,-,-,-,-,-,-,qs⟩:=Af HM2.out.box
 have l1:gS<w2.heap.size:=(HM2.out.c.s.lt _ rfl).2
 obtain⟨c0,c1,c2,c3,c4,c5,hfz⟩:=Df HM2.out.c.s (j:=j) hj
 dsimp only at q0 c0 c1 c2 c3 c4 c5
 rw[HS.out] at c0 c1 c2 c3 c4 c5
 have k0:w2.cell? ⟨w.heap.size,0,none⟩=some (O J ka):=by rw[cell_of_block HK2.out];rfl
 have k1:w2.cell? ⟨w.heap.size,1,none⟩=some (O J kb):=by rw[cell_of_block HK2.out];rfl
 have ks:=lt_of_block HK2.out
 clear HM2 HK2 HQ HFl
 go_region
 all_goals go_wp2
 all_goals go_ret2
 all_goals
  obtain⟨w3,h3,h4⟩:=HW.out
  subst h4
  exact⟨rfl,w3,h3,by rw[HS.out];rfl⟩
theorem b2k(w:Wq)(B:Nat)(sv hv lv nv:Value)(aF:Option Addr)(cF:Nat)(ka kb u:Int)
  (hB:w.heap[B]?=some (.cells (List.toArray (sv :: hv :: Y aF 0 cF :: lv :: nv :: Xb.rs)) Xb.rt (0,0))) :
  Calls Pg 203 #[.pointer (some ⟨B,0,none⟩),.agg #[O J ka,O J kb],O J u] w fun e w'=>e=.returned (.tuple #[O J 0,.bool false])/\Below w.heap.size w w':=by
 obtain⟨q0,q1,q2,q3,q4,f0,f1,f2,f3,f4,qs⟩:=Af hB
 clear hB
 go_enter Tryz.func203,Tryz.ntmps203
 go_wp2_with fail
 go_quiet (fail)
 go_wp2
 go_ret2
 exact⟨rfl,(A7 _ _).trans ⟨rfl,rfl,rfl,Nat.le_refl _,fun _ _=>rfl⟩⟩
theorem Mine.a8g{w:Wq}{B lo g:Nat}{aH aF aL:Option Addr}{cS cH cF cL:Nat}{M:Mm}(m:Mine Xb w B lo (some ⟨g,0,none⟩) aH aF aL cS cH cF cL M):B≠g :=
 fun e=>own_ne m.c.s m.box (by first|decide|exact Ex.ne _ _ (by decide)) (by rw[e];rfl)
theorem Mine.ne_h{w:Wq}{B lo g:Nat}{aS aF aL:Option Addr}{cS cH cF cL:Nat}{M:Mm}(m:Mine Xb w B lo aS (some ⟨g,0,none⟩) aF aL cS cH cF cL M):B≠g :=
 fun e=>own_ne m.c.h m.box (by first|decide|exact Ex.ne _ _ (by decide)) (by rw[e];rfl)
theorem Mine.ne_f{w:Wq}{B lo g:Nat}{aS aH aL:Option Addr}{cS cH cF cL:Nat}{M:Mm}(m:Mine Xb w B lo aS aH (some ⟨g,0,none⟩) aL cS cH cF cL M):B≠g :=
 fun e=>own_ne m.c.f m.box (by first|decide|exact Ex.ne _ _ (by decide)) (by rw[e];rfl)
end
section
variable {Xb:Ex}
theorem b1c(w:Wq)(B gS nS j cS:Nat)(hv fv lv nv:Value)(r:Int)
  (hB:w.heap[B]?=some (.cells (List.toArray (Y (some ⟨gS,0,none⟩) nS cS :: hv :: fv :: lv :: nv :: Xb.rs)) Xb.rt (0,0))) (hj:j<nS) (c0:w.cell? ⟨gS,j*6,none⟩=some (O J r)) (hr:r=0\/r=1000) :
  Calls Pg 201 #[.pointer (some ⟨B,0,none⟩),O J j] w fun e w'=>e=.returned (.bool false)/\w=w':=by
 obtain⟨q0,q1,q2,q3,q4,f0,f1,f2,f3,f4,qs⟩:=Af hB
 clear hB
 rcases hr with rfl|rfl
 all_goals
  go_enter Tryz.func201,Tryz.ntmps201
  go_wp2
  go_ret
  exact⟨rfl,rfl⟩
theorem a7t(w:Wq)(B gS nS j cS:Nat)(hv fv lv nv:Value)(r:Int)
  (hB:w.heap[B]?=some (.cells (List.toArray (Y (some ⟨gS,0,none⟩) nS cS :: hv :: fv :: lv :: nv :: Xb.rs)) Xb.rt (0,0))) (hj:j<nS) (c0:w.cell? ⟨gS,j*6,none⟩=some (O J r)) (f0:w.frozen? ⟨gS,j*6,none⟩=false) (h0:0<r) (h1:r<1000) :
  Calls Pg 201 #[.pointer (some ⟨B,0,none⟩),O J j] w fun e w'=>e=.returned (.bool true)/\w.setCell ⟨gS,j*6,none⟩ (O J (r+1))=w':=by
 obtain⟨q0,q1,q2,q3,q4,-,-,-,-,-,qs⟩:=Af hB
 clear hB
 have e0:(r==0)=false:=by rw[beq_eq_false_iff_ne];omega
 have e1:(r==1000)=false:=by rw[beq_eq_false_iff_ne];omega
 go_enter Tryz.func201,Tryz.ntmps201
 go_wp2
 go_ret
 exact⟨rfl,rfl⟩
theorem b4b(w:Wq)(B gS nS j cS:Nat)(hv fv lv nv:Value)
  (hB:w.heap[B]?=some (.cells (List.toArray (Y (some ⟨gS,0,none⟩) nS cS :: hv :: fv :: lv :: nv :: Xb.rs)) Xb.rt (0,0))) (hj:j<nS) (c0:w.cell? ⟨gS,j*6,none⟩=some (O J 0)) :
  Calls Pg 197 #[.pointer (some ⟨B,0,none⟩),O J j] w fun e w'=>e=.returned (.bool false)/\w=w':=by
 obtain⟨q0,q1,q2,q3,q4,f0,f1,f2,f3,f4,qs⟩:=Af hB
 clear hB
 go_enter Tryz.func197,Tryz.ntmps197
 go_wp2
 go_ret
 exact⟨rfl,rfl⟩
theorem a8v(w:Wq)(B gS nS j cS:Nat)(hv fv lv nv:Value)(r:Int)
  (hB:w.heap[B]?=some (.cells (List.toArray (Y (some ⟨gS,0,none⟩) nS cS :: hv :: fv :: lv :: nv :: Xb.rs)) Xb.rt (0,0))) (hj:j<nS) (c0:w.cell? ⟨gS,j*6,none⟩=some (O J r)) (f0:w.frozen? ⟨gS,j*6,none⟩=false) (h0:1<r) (h1:r<=1000) :
  Calls Pg 197 #[.pointer (some ⟨B,0,none⟩),O J j] w fun e w'=>e=.returned (.bool true)/\w.setCell ⟨gS,j*6,none⟩ (O J (r - 1))=w':=by
 obtain⟨q0,q1,q2,q3,q4,-,-,-,-,-,qs⟩:=Af hB
 clear hB
 have e0:(r==0)=false:=by rw[beq_eq_false_iff_ne];omega
 have e1:(r - 1==0)=false:=by rw[beq_eq_false_iff_ne];omega
 go_enter Tryz.func197,Tryz.ntmps197
 go_wp2
 go_ret
 exact⟨rfl,rfl⟩
theorem Lt(w:Wq)(v:Value)(t:TypeId)(n:Nat)(hn:n=w.heap.size):∀ (j:Nat) (u:Value),([v]:List Value)[j]?=some u->(w.alloc (.cells #[v] t)).cell? ((⟨n,0,none⟩:Addr).add j)=some u:=by
 subst hn
 intro j u hj
 match j,hj with
 | 0,hj=>simp at hj;subst hj;simp[Addr.add]
theorem a3w{w w1:Wq}{B gS o:Nat}{row:Option Nat}{u v:Value}{ob:Obj}(hg:((w.setCell ⟨gS,o,none⟩ u).alloc ob).grownBy w1 row)(q2:w.cell? ⟨B,2,none⟩=some v)(f2:w.frozen? ⟨B,2,none⟩=false)(h1:B≠gS)(h2:row≠some B)(hB:B<w.heap.size) :
  w1.cell? ⟨B,2,none⟩=some v/\w1.frozen? ⟨B,2,none⟩=false:=by
 have hk:w1.heap[B]?=w.heap[B]?:=by
  rw[hg.block B (by simp;omega) (fun e=>h2 e.symm),Below.heap_alloc _ _ _ (by simp;omega),Below.heap_setCell _ _ _ _ (by dsimp only;exact h1)]
 exact⟨(World.cell?_of_block (a:=⟨B,2,none⟩) hk).trans q2,(World.frozen?_of_block (a:=⟨B,2,none⟩) hk).trans f2⟩
theorem b0p(ao:Option Addr)(n cap:Nat)(w:Wq)(h:n<=cap)(hnil:ao=none->n=0/\cap=0) :
  Calls Pg 212 #[Y ao n cap] w fun e w'=>e=.returned (Y ao n n)/\w=w':=by
 cases ao with
 | none =>
  obtain⟨rfl,rfl⟩:=hnil rfl
  go_enter Tryz.func212,Tryz.ntmps212
  go_wp2
  go_ret
  exact⟨rfl,rfl⟩
 | some ad =>
  go_enter Tryz.func212,Tryz.ntmps212
  go_wp2
  go_ret
  exact⟨rfl,rfl⟩
theorem Mine.Cm{w w1:Wq}{B lo n:Nat}{aS aH aF aL a':Option Addr}{cS cH cF cL c':Nat}{M:Mm}(m:Mine Xb w B lo aS aH aF aL cS cH cF cL M)(F':List Int)(hm:F'.length*8<=140737488351000)
  (hb:Below w.heap.size w w1) (hn:F'.length=n) (ho:w1.ownsRow w.heap.size 3 1 (Y a' n c') n (encI F')) :
  Mine Xb (w1.setCell ⟨B,2,none⟩ (Y a' n c')) B lo aS aH a' aL cS cH c' cL { M with free:=F' }:=by
 subst hn
 have dh:=Uw m.c.h ho (Nat.le_refl _)
 have dl:=Uw m.c.l ho (Nat.le_refl _)
 obtain⟨hB,⟨s,h,f,l,hf,hl,fl,lz⟩,m1,m2,m3,m4⟩:=m.below hb
 refine⟨?_,⟨E8 s hB (by first|decide|exact Ex.ne _ _ (by decide)) _,E8 h hB (by first|decide|exact Ex.ne _ _ (by decide)) _,E8 (ownsRow_le ho m.c.lz) hB (by first|decide|exact Ex.ne _ _ (by decide)) _,E8 l hB (by first|decide|exact Ex.ne _ _ (by decide)) _,dh,hl,dl.symm,by rw[World.size_setCell];exact lz⟩,m1,m2,hm,m4⟩
 have:=block_setCell (i:=2) hB (Y a' F'.length c')
 simpa using this
theorem a8u(w:Wq)(B gS nS j cS cF:Nat)(aF:Option Addr)(F:List Int)(hv lv nv:Value)
  (hB:w.heap[B]?=some (.cells (List.toArray (Y (some ⟨gS,0,none⟩) nS cS :: hv :: Y aF F.length cF :: lv :: nv :: Xb.rs)) Xb.rt (0,0))) (hj:j<nS) (c0:w.cell? ⟨gS,j*6,none⟩=some (O J 1)) (f0:w.frozen? ⟨gS,j*6,none⟩=false)
  (hne:B≠gS) (hO:Cj (w.setCell ⟨gS,j*6,none⟩ (O J 0)) aF cF F) (hm:F.length*8<=140737488350000) :
  Calls Pg 197 #[.pointer (some ⟨B,0,none⟩),O J j] w fun e w'=>e=.returned (.bool true)/\∃ a' c' w1,Below w.heap.size (w.setCell ⟨gS,j*6,none⟩ (O J 0)) w1 /\
   w1.ownsRow w.heap.size 3 1 (Y a' (F.length+1) c') (F.length+1) (encI (F ++ [(j:Int)]))/\w1.setCell ⟨B,2,none⟩ (Y a' (F.length+1) c')=w':=by
 obtain⟨q0,q1,q2,q3,q4,-,-,f2,-,-,qs⟩:=Af hB
 obtain⟨i0,hi,hz0,hz1,hz2⟩:=info_parts iI
 have hne':(⟨gS,j*6,none⟩:Addr) ≠ ⟨B,2,none⟩:=by intro h;injection h with h;omega
 have HO:Hid (Cj (w.setCell ⟨gS,j*6,none⟩ (O J 0)) aF cF F):=hO
 have HN:Hid (aF=none->F.length=0/\cF=0):=fun h=>⟨by have:=HO.out.nil h;have:=HO.out.le;omega,HO.out.nil h⟩
 have HN2:Hid (aF=none->F.length=0/\F.length=0):=fun h=>⟨(HN.out h).1,(HN.out h).1⟩
 have HSr:Hid (∀ ad,aF=some ad->∀ j' u,(encI F)[j']?=some u->((w.setCell ⟨gS,j*6,none⟩ (O J 0)).alloc (.cells #[O J j] 3)).cell? (ad.add j')=some u):=(HO.out.below (A7 _ _)).src
 have HE:Hid ((encI F).length=F.length*1):=by show _=_;rw[Dq,Nat.mul_one]
 have HLe:Hid (F.length<=cF):=HO.out.le
 have HMx:Hid (F.length<=9223372036854775807):=by show _<=_;omega
 clear hB hO
 go_enter Tryz.func197,Tryz.ntmps197
 go_wp2_with (first
  | (go_at_call 212;refine(b0p aF F.length cF _ HLe.out HN.out).mono ?_;rintro e w' ⟨rfl,rfl⟩)
  | (at_builtin;(refine wpList_append_grows _ rfl _ _ 23 rfl 3 i0 (O J 0) 1 8 Tryz.underlying23 hi hz0 hz1 hz2 rfl (by first|decide|exact Ex.ne _ _ (by decide)) aF F.length F.length (encI F) rfl HN2.out HE.out HSr.out ⟨w.heap.size,0,none⟩ 1 1 [O J j] rfl rfl (Lt _ _ _ _ (World.size_setCell ..).symm) (by intro u hu;simp at hu;subst hu;rfl) (by omega) (by unfold maxLen;omega) (by omega) ?_;intro v w1 hown1 hgrow1;obtain⟨g,cap,rfl⟩:=ownsRow_form hown1 (by omega);have HO1:Hid (w1.ownsRow ((w.setCell ⟨gS,j*6,none⟩ (O J 0)).alloc (.cells #[O J j] 3)).heap.size 3 1 (Y (some ⟨g,0,none⟩) (F.length+1) cap) (F.length+1) (encI F ++ [O J j])):=hown1;have HG1:Hid (((w.setCell ⟨gS,j*6,none⟩ (O J 0)).alloc (.cells #[O J j] 3)).grownBy w1 none):=hgrow1;clear hown1 hgrow1;obtain⟨r2,r3⟩:=a3w HG1.out q2 f2 hne (by simp) qs)))
 go_ret
 refine⟨rfl,_,_,w1,?_,?_,rfl⟩
 ·exact((Below.refl _ _).alloc (by simp) _).grown HG1.out (by simp) (fun k h=>by cases h)
 ·have:=ownsRow_le (base':=w.heap.size) HO1.out (by simp)
  rwa [show encI F ++ [O J (j:Int)]=encI (F ++ [(j:Int)]) by simp[encI]] at this
theorem a2d(M:Mm)(j:Nat)(hj:j<M.slots.length)(r:Int):J9 M j r=M.slots.set j { M.slots[j] with refs:=r }:=by
 simp[J9,List.getD_eq_getElem?_getD,hj]
theorem Jj(M:Mm)(j:Nat)(hj:j<M.slots.length):Dy M j=M.slots[j].refs:=by
 simp[Dy,List.getD_eq_getElem?_getD,hj]
theorem a4p(M:Mm)(w:Wq)(B lo:Nat)(aS aH aF aL:Option Addr)(cS cH cF cL:Nat)(i:Int)(m:Mine Xb w B lo aS aH aF aL cS cH cF cL M)(h0:0<=i)(h1:i<M.slots.length)(hr:Dy M i=0\/Dy M i=1000) :
  Calls Pg 201 #[.pointer (some ⟨B,0,none⟩),O J i] w fun e w'=>e=.returned (.bool false)/\w=w':=by
 obtain⟨j,rfl⟩:∃ j:Nat,i=j:=⟨i.toNat,by omega⟩
 have hj:j<M.slots.length:=by omega
 obtain⟨gS,rfl,-,-,-,-⟩:=Bh m.c.s (by omega)
 rw[Jj M j hj] at hr
 exact b1c w B gS _ j cS _ _ _ _ _ m.box hj (Df m.c.s hj).1 hr
theorem a8t(M:Mm)(w:Wq)(B lo:Nat)(aS aH aF aL:Option Addr)(cS cH cF cL:Nat)(i:Int)(m:Mine Xb w B lo aS aH aF aL cS cH cF cL M)(h0:0<=i)(h1:i<M.slots.length)(hr:Dy M i=0) :
  Calls Pg 197 #[.pointer (some ⟨B,0,none⟩),O J i] w fun e w'=>e=.returned (.bool false)/\w=w':=by
 obtain⟨j,rfl⟩:∃ j:Nat,i=j:=⟨i.toNat,by omega⟩
 have hj:j<M.slots.length:=by omega
 obtain⟨gS,rfl,-,-,-,-⟩:=Bh m.c.s (by omega)
 rw[Jj M j hj] at hr
 exact b4b w B gS _ j cS _ _ _ _ m.box hj (hr ▸ (Df m.c.s hj).1)
theorem turned{M:Mm}{w:Wq}{B lo g j:Nat}{aH aF aL:Option Addr}{cS cH cF cL:Nat}(m:Mine Xb w B lo (some ⟨g,0,none⟩) aH aF aL cS cH cF cL M)(hj:j<M.slots.length)(r:Int) :
  Mine Xb (w.setCell ⟨g,j*6,none⟩ (O J r)) B lo (some ⟨g,0,none⟩) aH aF aL cS cH cF cL { M with slots:=J9 M j r }:=by
 rw[a2d M j hj r]
 exact m.Rl _ _ _ (a4h M.slots j hj r)
end
section
theorem few:∀ (n:Nat) (l:List Int),l.Nodup->(∀ a∈l,0<=a/\a<n)->l.length<=n
 | 0,l,hn,h=>by
  match l,h with
  | [],_=>simp
  | a :: _,h=>have:=h a (by simp);omega
 | n+1,l,hn,h=>by
  have h1:=few n (l.erase (n:Int)) (hn.erase _) (fun a ha=>by
   have h3:=(hn.mem_erase_iff).1 ha
   have h4:=h a h3.2
   have h5:=h3.1
   omega)
  rw[List.length_erase] at h1
  split at h1 <;> omega
theorem Ok.few{m:Mm}(h:Ok m):m.free.length<=12:=by
 have:=mm.few m.slots.length m.free h.nodup (fun a ha=>by
  have:=(Ih _ _).1 (h.free a ha)
  omega)
 have:=h.ns
 omega
end
section
theorem keyf{w:Wq}{B:Nat}{v0 v1:Value}{t:TypeId}(h:w.heap[B]?=some (.cells #[v0,v1] t (0,0))):w.cell? ⟨B,0,none⟩=some v0/\w.cell? ⟨B,1,none⟩=some v1 :=
 ⟨by rw[cell_of_block h];rfl,by rw[cell_of_block h];rfl⟩
end
section
structure Gr(w0:Wq)(lo B:Nat)(w:Wq)(sv hv fv lv:Value)(S:List Sl)(H F L:List Int):Prop where
 box:w.heap[B]?=some (.cells #[sv,hv,fv,lv,O J 0] 25 (0,0))
 s:w.ownsRow lo 64 6 sv S.length (encS S)
 h:w.ownsRow lo 3 1 hv H.length (encI H)
 f:w.ownsRow lo 3 1 fv F.length (encI F)
 l:w.ownsRow lo 3 1 lv L.length (encI L)
 hf:Dj hv fv
 hl:Dj hv lv
 fl:Dj fv lv
 at_:lo<=B
 below:Below lo w0 w
theorem Ff{w w1:Wq}{ob:Obj}{lo size n:Nat}{e:TypeId}{v u:Value}{xs:List Value}(h:w.ownsRow lo e size v n xs)(hg:(w.alloc ob).grownBy w1 u.ownBlock)(hd:Dj v u){B j:Nat}{x:Value}(hne:v.ownBlock≠some B):(w1.setCell ⟨B,j,none⟩ x).ownsRow lo e size v n xs :=
 ownsRow_setCell_other ((h.alloc ob).kept hg hd.ne) hne x
theorem D6{w w1:Wq}{ob:Obj}{B:Nat}{u:Value}{o:Obj}(hB:w.heap[B]?=some o)(hg:(w.alloc ob).grownBy w1 u.ownBlock)(hne:u.ownBlock≠some B):w1.heap[B]?=some o:=by
 have:=lt_of_block hB
 rw[hg.block B (by simp;omega) (fun e=>hne e.symm),Below.heap_alloc _ _ _ this,hB]
theorem Gs{w0 w w1:Wq}{ob:Obj}{lo B j:Nat}{u x:Value}(hb:Below lo w0 w)(hg:(w.alloc ob).grownBy w1 u.ownBlock)(hu:∀ k,u.ownBlock=some k->lo<=k)(hl:lo<=w.heap.size)(hB:lo<=B):Below lo w0 (w1.setCell ⟨B,j,none⟩ x) :=
 ((hb.alloc hl ob).grown hg (by simp;omega) hu).setCell hB x
theorem Jk{w:Wq}{lo size n B j:Nat}{e:TypeId}{v x:Value}{xs:List Value}(h:w.ownsRow lo e size v n xs)(hne:v.ownBlock≠some B):(w.setCell ⟨B,j,none⟩ x).ownsRow lo e size v n xs :=
 ownsRow_setCell_other h hne x
theorem Gr.b4e{w0 w w1:Wq}{lo B:Nat}{sv hv fv lv v':Value}{S:List Sl}{H F L:List Int}{ob:Obj}{x:Sl}(G:Gr w0 lo B w sv hv fv lv S H F L)
  (ho:w1.ownsRow lo 64 6 v' (S.length+1) (encS S++x.enc)) (hg:(w.alloc ob).grownBy w1 sv.ownBlock) (hloc:v'.ownBlock=sv.ownBlock\/v'.ownBlock=some (w.alloc ob).heap.size) :
  Gr w0 lo B (w1.setCell ⟨B,0,none⟩ v') v' hv fv lv (S ++ [x]) H F L:=by
 have hB:=D6 G.box hg (own_ne G.s G.box (by first|decide|exact Ex.ne _ _ (by decide)))
 have hne:v'.ownBlock≠some B:=own_ne ho hB (by first|decide|exact Ex.ne _ _ (by decide))
 have hlt:∀ {u:Value} {n size:Nat} {e:TypeId} {xs:List Value},w.ownsRow lo e size u n xs->∀ g,u.ownBlock=some g->g<(w.alloc ob).heap.size:=fun h g hg=>by have:=(h.lt g hg).2;simp;omega
 have hz:lo<=w.heap.size:=by have:=lt_of_block G.box;have:=G.at_;omega
 refine⟨?_,?_,?_,?_,?_,?_,?_,?_,G.at_,Gs G.below hg (fun k hk=>(G.s.lt k hk).1) hz G.at_⟩
 ·have:=block_setCell (i:=0) hB v'
  simpa using this
 ·have:=Jk (j:=0) (x:=v') ho hne
  rwa [show encS S++x.enc=encS (S ++ [x]) by simp[encS],show S.length+1=(S ++ [x]).length by simp] at this
 ·exact Ff G.h hg (Cf G.h G.s (by first|decide|exact Ex.ne _ _ (by decide))) (own_ne G.h G.box (by first|decide|exact Ex.ne _ _ (by decide)))
 ·exact Ff G.f hg (Cf G.f G.s (by first|decide|exact Ex.ne _ _ (by decide))) (own_ne G.f G.box (by first|decide|exact Ex.ne _ _ (by decide)))
 ·exact Ff G.l hg (Cf G.l G.s (by first|decide|exact Ex.ne _ _ (by decide))) (own_ne G.l G.box (by first|decide|exact Ex.ne _ _ (by decide)))
 ·exact G.hf
 ·exact G.hl
 ·exact G.fl
theorem Gr.a7q{w0 w w1:Wq}{lo B:Nat}{sv hv fv lv v':Value}{S:List Sl}{H F L:List Int}{ob:Obj}{x:Int}(G:Gr w0 lo B w sv hv fv lv S H F L)
  (ho:w1.ownsRow lo 3 1 v' (H.length+1) (encI H ++ [O J x])) (hg:(w.alloc ob).grownBy w1 hv.ownBlock) (hloc:v'.ownBlock=hv.ownBlock\/v'.ownBlock=some (w.alloc ob).heap.size) :
  Gr w0 lo B (w1.setCell ⟨B,1,none⟩ v') sv v' fv lv S (H ++ [x]) F L:=by
 have hB:=D6 G.box hg (own_ne G.h G.box (by first|decide|exact Ex.ne _ _ (by decide)))
 have hne:v'.ownBlock≠some B:=own_ne ho hB (by first|decide|exact Ex.ne _ _ (by decide))
 have hlt:∀ {u:Value} {n size:Nat} {e:TypeId} {xs:List Value},w.ownsRow lo e size u n xs->∀ g,u.ownBlock=some g->g<(w.alloc ob).heap.size:=fun h g hg=>by have:=(h.lt g hg).2;simp;omega
 have hz:lo<=w.heap.size:=by have:=lt_of_block G.box;have:=G.at_;omega
 refine⟨?_,?_,?_,?_,?_,?_,?_,?_,G.at_,Gs G.below hg (fun k hk=>(G.h.lt k hk).1) hz G.at_⟩
 ·have:=block_setCell (i:=1) hB v'
  simpa using this
 ·exact Ff G.s hg (Cf G.s G.h (by first|decide|exact Ex.ne _ _ (by decide))) (own_ne G.s G.box (by first|decide|exact Ex.ne _ _ (by decide)))
 ·have:=Jk (j:=1) (x:=v') ho hne
  rwa [show encI H ++ [O J x]=encI (H ++ [x]) by simp[encI],show H.length+1=(H ++ [x]).length by simp] at this
 ·exact Ff G.f hg ((G.hf).symm) (own_ne G.f G.box (by first|decide|exact Ex.ne _ _ (by decide)))
 ·exact Ff G.l hg ((G.hl).symm) (own_ne G.l G.box (by first|decide|exact Ex.ne _ _ (by decide)))
 ·exact(Dj.grown (w:=w.alloc ob) ((G.hf).symm) (hlt G.f) hloc).symm
 ·exact(Dj.grown (w:=w.alloc ob) ((G.hl).symm) (hlt G.l) hloc).symm
 ·exact G.fl
theorem Gr.a7l{w0 w w1:Wq}{lo B:Nat}{sv hv fv lv v':Value}{S:List Sl}{H F L:List Int}{ob:Obj}{x:Int}(G:Gr w0 lo B w sv hv fv lv S H F L)
  (ho:w1.ownsRow lo 3 1 v' (F.length+1) (encI F ++ [O J x])) (hg:(w.alloc ob).grownBy w1 fv.ownBlock) (hloc:v'.ownBlock=fv.ownBlock\/v'.ownBlock=some (w.alloc ob).heap.size) :
  Gr w0 lo B (w1.setCell ⟨B,2,none⟩ v') sv hv v' lv S H (F ++ [x]) L:=by
 have hB:=D6 G.box hg (own_ne G.f G.box (by first|decide|exact Ex.ne _ _ (by decide)))
 have hne:v'.ownBlock≠some B:=own_ne ho hB (by first|decide|exact Ex.ne _ _ (by decide))
 have hlt:∀ {u:Value} {n size:Nat} {e:TypeId} {xs:List Value},w.ownsRow lo e size u n xs->∀ g,u.ownBlock=some g->g<(w.alloc ob).heap.size:=fun h g hg=>by have:=(h.lt g hg).2;simp;omega
 have hz:lo<=w.heap.size:=by have:=lt_of_block G.box;have:=G.at_;omega
 refine⟨?_,?_,?_,?_,?_,?_,?_,?_,G.at_,Gs G.below hg (fun k hk=>(G.f.lt k hk).1) hz G.at_⟩
 ·have:=block_setCell (i:=2) hB v'
  simpa using this
 ·exact Ff G.s hg (Cf G.s G.f (by first|decide|exact Ex.ne _ _ (by decide))) (own_ne G.s G.box (by first|decide|exact Ex.ne _ _ (by decide)))
 ·exact Ff G.h hg (G.hf) (own_ne G.h G.box (by first|decide|exact Ex.ne _ _ (by decide)))
 ·have:=Jk (j:=2) (x:=v') ho hne
  rwa [show encI F ++ [O J x]=encI (F ++ [x]) by simp[encI],show F.length+1=(F ++ [x]).length by simp] at this
 ·exact Ff G.l hg ((G.fl).symm) (own_ne G.l G.box (by first|decide|exact Ex.ne _ _ (by decide)))
 ·exact Dj.grown (w:=w.alloc ob) (G.hf) (hlt G.h) hloc
 ·exact G.hl
 ·exact(Dj.grown (w:=w.alloc ob) ((G.fl).symm) (hlt G.l) hloc).symm
theorem Gr.a7y{w0 w w1:Wq}{lo B:Nat}{sv hv fv lv v':Value}{S:List Sl}{H F L:List Int}{ob:Obj}{x:Int}(G:Gr w0 lo B w sv hv fv lv S H F L)
  (ho:w1.ownsRow lo 3 1 v' (L.length+1) (encI L ++ [O J x])) (hg:(w.alloc ob).grownBy w1 lv.ownBlock) (hloc:v'.ownBlock=lv.ownBlock\/v'.ownBlock=some (w.alloc ob).heap.size) :
  Gr w0 lo B (w1.setCell ⟨B,3,none⟩ v') sv hv fv v' S H F (L ++ [x]):=by
 have hB:=D6 G.box hg (own_ne G.l G.box (by first|decide|exact Ex.ne _ _ (by decide)))
 have hne:v'.ownBlock≠some B:=own_ne ho hB (by first|decide|exact Ex.ne _ _ (by decide))
 have hlt:∀ {u:Value} {n size:Nat} {e:TypeId} {xs:List Value},w.ownsRow lo e size u n xs->∀ g,u.ownBlock=some g->g<(w.alloc ob).heap.size:=fun h g hg=>by have:=(h.lt g hg).2;simp;omega
 have hz:lo<=w.heap.size:=by have:=lt_of_block G.box;have:=G.at_;omega
 refine⟨?_,?_,?_,?_,?_,?_,?_,?_,G.at_,Gs G.below hg (fun k hk=>(G.l.lt k hk).1) hz G.at_⟩
 ·have:=block_setCell (i:=3) hB v'
  simpa using this
 ·exact Ff G.s hg (Cf G.s G.l (by first|decide|exact Ex.ne _ _ (by decide))) (own_ne G.s G.box (by first|decide|exact Ex.ne _ _ (by decide)))
 ·exact Ff G.h hg (G.hl) (own_ne G.h G.box (by first|decide|exact Ex.ne _ _ (by decide)))
 ·exact Ff G.f hg (G.fl) (own_ne G.f G.box (by first|decide|exact Ex.ne _ _ (by decide)))
 ·have:=Jk (j:=3) (x:=v') ho hne
  rwa [show encI L ++ [O J x]=encI (L ++ [x]) by simp[encI],show L.length+1=(L ++ [x]).length by simp] at this
 ·exact G.hf
 ·exact Dj.grown (w:=w.alloc ob) (G.hl) (hlt G.h) hloc
 ·exact Dj.grown (w:=w.alloc ob) (G.fl) (hlt G.f) hloc
theorem Gr.ans{w0 w:Wq}{lo B:Nat}{sv hv fv lv:Value}{S:List Sl}{H F L:List Int}(G:Gr w0 lo B w sv hv fv lv S H F L)(h1:S.length*48<=140737488351232)(h2:H.length*8<=140737488351232)(h3:F.length*8<=140737488351232)(h4:L.length*8<=140737488351232) :
  Ans lo w (.agg #[sv,hv,fv,lv,O J 0]) ⟨S,H,F,L,0⟩:=by
 have ks:=G.s.lt;have kh:=G.h.lt;have kf:=G.f.lt;have kl:=G.l.lt
 obtain⟨aS,cS,rfl,rs⟩:=Ic.Kr G.s h1
 obtain⟨aH,cH,rfl,rh⟩:=Cj.Kr G.h h2
 obtain⟨aF,cF,rfl,rf⟩:=Cj.Kr G.f h3
 obtain⟨aL,cL,rfl,rl⟩:=Cj.Kr G.l h4
 refine⟨aS,aH,aF,aL,cS,cH,cF,cL,rfl,⟨rs,rh,rf,rl⟩,⟨?_,?_,?_,?_⟩⟩
 ·rintro ad rfl;exact(ks _ rfl).1
 ·rintro ad rfl;exact(kh _ rfl).1
 ·rintro ad rfl;exact(kf _ rfl).1
 ·rintro ad rfl;exact(kl _ rfl).1
end
section
theorem b1l(a b:Int)(w:Wq)(h:Wx a b=3) :
  Calls Pg 59 #[O J a,O J b] w fun e w'=>e=.returned (.tuple #[.agg #[Y none 0 0,Y none 0 0,Y none 0 0,Y none 0 0,O J 0],O J 3])/\Below w.heap.size w w':=by
 have hh:inB a 0 12=false\/(inB a 0 12=true/\inB b 1 4=false):=by
  unfold Wx at h
  cases h1:inB a 0 12
  ·exact .inl rfl
  ·cases h2:inB b 1 4
   ·exact .inr ⟨rfl,rfl⟩
   ·simp[h1,h2] at h
 clear h
 rcases hh with h1|⟨h1,h2⟩
 all_goals
  go_enter Tryz.func59,Tryz.ntmps59
  go_wp2_with (go_at_call 85;refine(Bq _ _ _ _).mono ?_;rintro e w1 ⟨rfl,rfl⟩)
  exact bodyPost_ret (v:=.tuple #[.agg #[Y none 0 0,Y none 0 0,Y none 0 0,Y none 0 0,O J 0],O J 3]) (by simp[results,Tryz.results59,go_sem]) rfl ⟨rfl,A7 _ _⟩
def Gx(n k:Nat):List Int:=(List.range k).map fun (a:Nat)=>(n:Int) - 1 - (a:Int)
def Hr(k:Nat):List Int:=(List.range k).map fun (b:Nat)=>-1 - (b:Int)
def O6(k:Nat):List Int:=List.replicate k (-1)
theorem Tv(n k:Nat):Gx n (k+1)=Gx n k ++ [(n:Int) - 1 - k]:=by simp[Gx,List.range_succ]
theorem Tz(k:Nat):Hr (k+1)=Hr k ++ [-1 - (k:Int)]:=by simp[Hr,List.range_succ]
theorem U1(k:Nat):O6 (k+1)=O6 k ++ [-1]:=by simp[O6,List.replicate_succ']
theorem G6(n k:Nat):(Gx n k).length=k:=by simp[Gx]
theorem G7(k:Nat):(Hr k).length=k:=by simp[Hr]
theorem G9(k:Nat):(O6 k).length=k:=by simp[O6]
theorem a5a(n:Nat):(madeCells #[O J 0,O J 0,O J 0,O J 0,.bool false,O J 0] (n*6)).toList=encS (List.replicate n sl0):=by
 apply List.ext_getElem?
 intro j
 by_cases hj:j<n*6
 ·have h6:j / 6<n:=by omega
  have hq:j % 6<6:=by omega
  have e6:j / 6*6+j % 6=j:=by omega
  have r:(encS (List.replicate n sl0))[j]?=(sl0.enc)[j % 6]?:=by
   have:=Qn (List.replicate n sl0) (j / 6) (j % 6) (by simpa using h6) hq
   rw[e6] at this
   rw[this]
   simp
  rw[r]
  have l:(madeCells #[O J 0,O J 0,O J 0,O J 0,.bool false,O J 0] (n*6)).toList[j]?=some ((#[O J 0,O J 0,O J 0,O J 0,.bool false,O J 0]:Array Value)[j % 6]!):=by
   simp[madeCells,hj]
  rw[l]
  generalize j % 6=q at hq
  match q,hq with
  | 0,_=>rfl
  | 1,_=>rfl
  | 2,_=>rfl
  | 3,_=>rfl
  | 4,_=>rfl
  | 5,_=>rfl
 ·rw[List.getElem?_eq_none (by simp[madeCells];omega),List.getElem?_eq_none (by rw[Hm];simp;omega)]
theorem Ans.off{lo g:Nat}{w w':Wq}{v:Value}{M:Mm}(A:Ans lo w v M)(hg:g<lo)(h:∀ k,k≠g->w'.heap[k]?=w.heap[k]?):Ans lo w' v M:=by
 obtain⟨aS,aH,aF,aL,cS,cH,cF,cL,e,A,hi⟩:=A
 exact⟨aS,aH,aF,aL,cS,cH,cF,cL,e,A.off hi hg h,hi⟩
theorem b3o(n m:Nat)(w:Wq)(hn:n<=12)(h1:1<=m)(h4:m<=4) :
  Calls Pg 59 #[O J n,O J m] w fun e w'=>∃ v,e=.returned (.tuple #[v,O J 0])/\Ans w.heap.size w' v (L6 n m)/\Below w.heap.size w w':=by
 obtain⟨i0,hi,hz0,hz1,hz2⟩:=info_parts iI
 obtain⟨j0,hj,yz0,yz1,yz2⟩:=info_parts iS
 have e1:inB (n:Int) 0 12=true:=(Aj _ _ _).2 ⟨by omega,by omega⟩
 have e2:inB (m:Int) 1 4=true:=(Aj _ _ _).2 ⟨by omega,by omega⟩
 go_enter Tryz.func59,Tryz.ntmps59
 go_wp2_with (first
  | (go_at_call 85;refine(Bq _ _ _ _).mono ?_;rintro e w1 ⟨rfl,rfl⟩)
  | (at_make;refine wpList_make_full _ rfl _ _ 22 rfl (w.heap.size+1) 64 j0 (.agg #[O J 0,O J 0,O J 0,O J 0,.bool false,O J 0]) 6 Tryz.underlying22 hj yz0 yz1 .i64 .i64 _ _ n rfl rfl rfl rfl (by rw[yz2];omega) (by unfold maxLen;omega) (by simp) ?_;intro w1 hown hgrow))
 rw[show (w.alloc (.cells #[Y none 0 0,Y none 0 0,Y none 0 0,Y none 0 0,O J 0] 25)).heap.size=w.heap.size+1 by simp] at *
 obtain⟨W0,hW0⟩:∃ W0,W0=w.alloc (.cells #[Y none 0 0,Y none 0 0,Y none 0 0,Y none 0 0,O J 0] 25):=⟨_,rfl⟩
 have HR:Hid (W0.heap[w.heap.size]?=some (.cells #[Y none 0 0,Y none 0 0,Y none 0 0,Y none 0 0,O J 0] 25)):=by rw[hW0];exact heap_alloc_new _ _
 have HW:Hid (Below w.heap.size w W0):=by rw[hW0];exact A7 _ _
 have HZ:Hid (W0.heap.size=w.heap.size+1):=by show _=_;rw[hW0];simp
 rw[<- hW0] at hgrow
 clear hW0
 have hS:w1.ownsRow (w.heap.size+1) 64 6 (Y (some ⟨w.heap.size+1,0,none⟩) n n) n (encS (List.replicate n sl0)):=by
  rw[<- a5a n];exact hown
 have z1:w.heap.size+1<w1.heap.size:=(hS.lt _ rfl).2
 have G0:Gr W0 (w.heap.size+1) w1.heap.size (w1.alloc (.cells #[Y (some ⟨w.heap.size+1,0,none⟩) n n,Y none 0 0,Y none 0 0,Y none 0 0,O J 0] 25)) (Y (some ⟨w.heap.size+1,0,none⟩) n n) (Y none 0 0) (Y none 0 0) (Y none 0 0) (List.replicate n sl0) [] [] []:=by
  refine⟨heap_alloc_new _ _,?_,World.ownsRow_nil _ _ _ _,World.ownsRow_nil _ _ _ _,World.ownsRow_nil _ _ _ _,(fun g h=>by cases h),(fun g h=>by cases h),(fun g h=>by cases h),by omega,?_⟩
  ·rw[List.length_replicate];exact hS.alloc _
  ·exact((Below.refl _ W0).grown hgrow (by rw[HZ.out];exact Nat.le_refl _) (fun k h=>by cases h)).alloc (by omega) _
 clear hown hgrow hS
 go_loopw [22] (fun i wr=>∃ k:Nat,k<=n/\i=O J k/\∃ fv,Gr W0 (w.heap.size+1) w1.heap.size wr (Y (some ⟨w.heap.size+1,0,none⟩) n n) (Y none 0 0) fv (Y none 0 0) (List.replicate n sl0) [] (Gx n k) [])
  (fun i _=>n - (intOf i).toNat)
 case atStart=>exact⟨0,Nat.zero_le _,rfl,_,G0⟩
 case round =>
  obtain⟨k,hk,rfl,fv,G⟩:=hrel
  clear G0
  obtain⟨ao,cap,rfl⟩:=Aq G.f
  rw[G6] at G
  obtain⟨q0,q1,q2,q3,q4,f0,f1,f2,f3,f4,qs⟩:=Af G.box
  by_cases hlt:k<n
  ·have hne:∀ b:Nat,b<w1.heap.size->True:=fun _ _=>trivial
   go_wp2_with (at_builtin;refine wpList_append_own_at _ rfl (.tmp 26) (.tmp 31) 23 rfl (w.heap.size+1) 3 i0 (O J 0) 1 8 Tryz.underlying23 hi hz0 hz1 hz2 rfl (by first|decide|exact Ex.ne _ _ (by decide)) _ _ _ rfl (G.f.alloc _) ⟨wr.heap.size,0,none⟩ 1 1 [O J ((n:Int) - 1 - (k:Int))] rfl rfl (Lt _ _ _ _ rfl) (by intro u hu;simp at hu;subst hu;rfl) (by rw[G6];unfold maxLen;omega) (by rw[G6];omega) (by simp;omega) ?_;intro v2 w2 ho2 hg2 _ hloc2;obtain⟨g2,cap2,rfl⟩:=ownsRow_form ho2 (by omega);have HO2:Hid (w2.ownsRow (w.heap.size+1) 3 1 _ ((Gx n k).length+1) (encI (Gx n k) ++ [O J ((n:Int) - 1 - (k:Int))])):=ho2;have HG2:Hid ((wr.alloc (.cells #[O J ((n:Int) - 1 - (k:Int))] 3)).grownBy w2 (Value.slice ao k cap).ownBlock):=⟨hg2.1,hg2.2,hg2.3,hg2.4,hg2.5⟩;have HL2:Hid ((Value.slice (some ⟨g2,0,none⟩) ((Gx n k).length+1) cap2).ownBlock=(Value.slice ao k cap).ownBlock\/(Value.slice (some ⟨g2,0,none⟩) ((Gx n k).length+1) cap2).ownBlock=some (wr.alloc (.cells #[O J ((n:Int) - 1 - (k:Int))] 3)).heap.size):=hloc2;clear ho2 hg2 hloc2 q0 q1 q2 q3 q4 f0 f1 f2 f3 f4;obtain⟨q0,q1,q2,q3,q4,f0,f1,f2,f3,f4,qs2⟩:=Af (D6 G.box HG2.out (own_ne G.f G.box (by first|decide|exact Ex.ne _ _ (by decide)))))
   go_roundw
   case rel=>exact⟨k+1,by omega,by go_num,_,by rw[Tv];exact G.a7l HO2.out HG2.out HL2.out⟩
   case measure=>simp[intOf];omega
  ·obtain rfl:k=n:=by omega
   go_wp2
   go_loopw [36] (fun i wr=>∃ j:Nat,j<=m/\i=O J j/\∃ hv lv,Gr W0 (w.heap.size+1) w1.heap.size wr (Y (some ⟨w.heap.size+1,0,none⟩) k k) hv (Y ao k cap) lv (List.replicate k sl0) (Hr j) (Gx k k) (O6 j))
    (fun i _=>m - (intOf i).toNat)
   case atStart=>exact⟨0,Nat.zero_le _,rfl,_,_,G⟩
   case round =>
    obtain⟨j,hj,rfl,hv,lv,G2⟩:=hrel
    clear G q0 q1 q2 q3 q4 f0 f1 f2 f3 f4 qs
    obtain⟨aH,cH,rfl⟩:=Aq G2.h
    obtain⟨aL,cL,rfl⟩:=Aq G2.l
    rw[G7,G9] at G2
    obtain⟨q0,q1,q2,q3,q4,f0,f1,f2,f3,f4,qs⟩:=Af G2.box
    by_cases hlt2:j<m
    ·have HOX:((wr.alloc (.cells #[O J (-1 - (j:Int))] 3)).drew).ownsRow (w.heap.size+1) 3 1 (Y aH j cH) (Hr j).length (encI (Hr j)):=(G2.h.alloc (.cells #[O J (-1 - (j:Int))] 3):(wr.alloc (.cells #[O J (-1 - (j:Int))] 3)).ownsRow (w.heap.size+1) 3 1 (Y aH j cH) (Hr j).length (encI (Hr j)))
     have HCX:∀ q u,[Value.int .i64 (-1 - (j:Int))][q]?=some u->((wr.alloc (.cells #[O J (-1 - (j:Int))] 3)).drew).cell? ((⟨wr.heap.size,0,none⟩:Addr).add q)=some u:=fun q u h=>cell_one_new wr (O J (-1 - (j:Int))) 3 q u h
     have G2':Gr W0 (w.heap.size+1) w1.heap.size wr.drew (Y (some ⟨w.heap.size+1,0,none⟩) k k) (Y aH j cH) (Y ao k cap) (Y aL j cL) (List.replicate k sl0) (Hr j) (Gx k k) (O6 j):=⟨G2.box,G2.s,G2.h,G2.f,G2.l,G2.hf,G2.hl,G2.fl,G2.at_,G2.below.drew⟩
     go_wp2_with fail
     go_region_law (first
      | (go_simp;go_at_call 108;refine(Ov _ _ (by omega) (by omega)).mono ?_;rintro e wq ⟨rfl,rfl⟩)
      | (refine Dt _ rfl (.tmp 40) (.tmp 43) 23 rfl (w.heap.size+1) 3 i0 (O J 0) 1 8 Tryz.underlying23 hi hz0 hz1 hz2 rfl (by first|decide|exact Ex.ne _ _ (by decide)) (Y aH j cH) _ _ rfl HOX ⟨wr.heap.size,0,none⟩ 1 1 [O J (-1 - (j:Int))] rfl rfl HCX (by intro u hu;simp at hu;subst hu;rfl) (by rw[G7];unfold maxLen;omega) (by rw[G7];omega) (by simp;omega) ?_;intro v2 w2 ho2 hg2 _ hloc2;obtain⟨g2,cap2,rfl⟩:=ownsRow_form ho2 (by omega);have HG2:Hid ((wr.alloc (.cells #[O J (-1 - (j:Int))] 3)).grownBy w2 (Value.slice aH j cH).ownBlock):=⟨hg2.1,hg2.2,hg2.3,hg2.4,hg2.5⟩;have G3:=G2.a7q (x:=-1 - (j:Int)) ho2 HG2.out hloc2;clear ho2 hg2 hloc2 q0 q1 q2 q3 q4 f0 f1 f2 f3 f4;obtain⟨q0,q1,q2,q3,q4,f0,f1,f2,f3,f4,qs2⟩:=Af (D6 G2.box HG2.out (own_ne G2.h G2.box (by first|decide|exact Ex.ne _ _ (by decide))));have z2:w1.heap.size<w2.heap.size:=qs2))
     all_goals go_wp2_with (at_builtin;refine wpList_append_own_at _ rfl (.tmp 47) (.tmp 48) 23 rfl (w.heap.size+1) 3 i0 (O J 0) 1 8 Tryz.underlying23 hi hz0 hz1 hz2 rfl (by first|decide|exact Ex.ne _ _ (by decide)) _ _ _ rfl (G3.l.alloc _) ⟨w2.heap.size,0,none⟩ 1 1 [O J (-1)] rfl rfl (Lt _ _ _ _ (World.size_setCell ..).symm) (by intro u hu;simp at hu;subst hu;rfl) (by rw[G9];unfold maxLen;omega) (by rw[G9];omega) (by simp;omega) ?_;intro v3 w3 ho3 hg3 _ hloc3;obtain⟨g3,cap3,rfl⟩:=ownsRow_form ho3 (by omega);have HG3:Hid (((w2.setCell ⟨w1.heap.size,1,none⟩ (Y (some ⟨g2,0,none⟩) ((Hr j).length+1) cap2)).alloc (.cells #[O J (-1)] 3)).grownBy w3 (Value.slice aL j cL).ownBlock):=hg3;have G4:=G3.a7y (x:=-1) ho3 HG3.out hloc3;clear ho3 hg3 hloc3 q0 q1 q2 q3 q4 f0 f1 f2 f3 f4;obtain⟨q0,q1,q2,q3,q4,f0,f1,f2,f3,f4,qs3⟩:=Af (D6 G3.box HG3.out (own_ne G3.l G3.box (by first|decide|exact Ex.ne _ _ (by decide)))))
     all_goals (go_roundw;(case rel=>exact⟨j+1,by omega,by go_num,_,_,by rw[Tz,U1];exact G4⟩);(case measure=>simp[intOf];omega))
    ·obtain rfl:j=m:=by omega
     have HR2:Hid (wr.heap[w.heap.size]?=_):=(G2.below.block w.heap.size (by omega)).trans HR.out
     obtain⟨r0,r1,r2,r3,r4,g0,g1,g2,g3,g4,rs⟩:=Af HR2.out
     have A:=G2.ans (by simp;omega) (by rw[G7];omega) (by rw[G6];omega) (by rw[G9];omega)
     have HA:Hid (Ans (w.heap.size+1) wr _ _):=A
     have HB:Hid (Below w.heap.size w wr):=HW.out.trans (G2.below.mono (by omega))
     clear A G2
     go_wp2
     refine bodyPost_ret (v:=.tuple #[.agg #[Y (some ⟨w.heap.size+1,0,none⟩) k k,Y aH j cH,Y ao k cap,Y aL j cL,O J 0],O J 0]) (by simp[results,Tryz.results59,go_sem,r0,r1,r2,r3,r4]) rfl ⟨_,rfl,?_,?_⟩
     ·exact(HA.out.off (by omega) (fun k hk=>Mc (w:=wr) hk)).mono (by omega)
     ·exact HB.out.trans (Jl wr _ _ _ _ _ _ _ (by omega))
end
section
theorem a7w(a b c d:Int)(w:Wq):(Op.equalIn 10000 30 (.agg #[O J a,O J b]) (.agg #[O J c,O J d])).run Pg w=.ok (a==c && b==d) w:=by
 have u3:=Tryz.underlying3
 have a3:=Tryz.isAgg3
 have z3:=Tryz.sizeOf3
 have hS:Pg.underlying 30=some (.struct (Pg.fieldsOf 30)):=by kernel_rfl
 have hp:Pg.stoodInHeld 30=false:=by kernel_rfl
 rw[show (10000:Nat)=9999+1 from rfl,run_equalIn_agg w 9999 30 _ _ hS hp]
 simp only[Program.fieldsOf,Tryz.underlying30]
 go_simp
 by_cases h1:a=c <;> by_cases h2:b=d <;> simp[h1,h2]
def fM1:Mm:=L6 2 1
def fM2:Mm:=Ob fM1 1 0 5
def fM3:Mm:=Ob fM2 2 0 5
def fM4:Mm:=Ob fM3 3 0 5
def fM5:Mm:=letM fM3 1
def fM6:Mm:=Ob fM5 4 0 6
theorem g2:Ob fM1 1 0 5=fM2:=rfl
theorem g3:Ob fM2 2 0 5=fM3:=rfl
theorem g4:Ob fM3 3 0 5=fM4:=rfl
theorem g5:letM fM3 1=fM5:=rfl
theorem g6:Ob fM5 4 0 6=fM6:=rfl
theorem f2:Yg fM1 1 0 5=0/\Td fM1 1 0 5=0:=by decide
theorem f3:Yg fM2 2 0 5=1/\Td fM2 2 0 5=0:=by decide
theorem f4:Yg fM3 3 0 5=0/\Td fM3 3 0 5=7:=by decide
theorem f5:letE fM3 1=0:=by decide
theorem f6:Yg fM5 4 0 6=1/\Td fM5 4 0 6=0:=by decide
end
end Go.Proofs.YthhgoenomehobaaGreat.mm
