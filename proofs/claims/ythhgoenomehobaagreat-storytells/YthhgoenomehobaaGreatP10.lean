/- Parts. -/
import Derived.Test.YthhgoenomehobaaGreatP08
import Derived.BigQuiet
import Derived.Lib.QuietBelow
namespace Go.Proofs.YthhgoenomehobaaGreat.mm
open World renaming size_setCell → eQ
open List renaming length_set → dZ, toArray → eG, set_cons_succ → fV, nil_append → eP, cons_append → fZ
open RowKit.Below renaming heap_alloc → fU, heap_setCell → dM
open Nat renaming le_refl → aC, le_trans → dQ
open Joins renaming cell_of_block → dN, block_setCell → dO, ownsRow_le → fQ
open Go renaming lt_of_block → fC, cell_regrown → fO, heap_alloc_new → fP, Value → dU, Calls → aI, ownsRow_setCell_other → dV, TypeId → dX, World → Wq
open Tryz
set_option maxRecDepth 100000
set_option linter.unusedVariables false
open Value renaming int → O, slice → Y
open IntKind renaming i64 → J
open Tryz renaming prog → Pg
open ChangeShapes WideShapes ChangeAt RowKit Joins
set_option maxHeartbeats 0
variable {w0 w w1:Wq}{lo lo1 size SY n n1 g bg:Nat}{ao:Option Addr}(M:Mm)(aS aH aF aL:Option Addr)(cS cH cF cL:Nat){B:Nat}{v0 sv hv fv lv v':dU}{S:List Sl}{H F L:List Int}{j:Nat}{e tt e1:dX}{gS o:Nat}{row:Option Nat}{u v v1:dU}{xs xs1:List dU}{cs:Array dU}{t:dX}{ob:Obj}{x:Int}
theorem Ej(h:w.ownsRow lo e size v n xs)(hB:w.heap[g]?=some (.cells cs tt (0,0)))(ne:e≠tt)(u:dU):(w.setCell ⟨g,j,none⟩ u).ownsRow lo e size v n xs :=
 dV h (own_ne h hB ne) u
theorem Wx(h:w.ownsRow lo e size v n xs)(h1:w1.ownsRow lo1 e1 SY v1 n1 xs1)(hl:w.heap.size<=lo1):Dj v v1:=by
 intro g hg BD
 have:=(h.lt g hg).2
 have:=(h1.lt g BD).1
 omega
theorem a9m(w:Wq)(A:At w aS aH aF aL cS cH cF cL M) :
  aI Pg 101 #[Cm aS aH aF aL cS cH cF cL M] w fun e w'=>∃ gS gH gF gL kS kH kF kL,
   e=.returned (.agg #[Y gS M.s.length kS,Y gH M.h.length kH,Y gF M.f.length kF,Y gL M.l.length kL,O J M.w]) /\
   Rw w' w.heap.size gS gH gF gL kS kH kF kL M/\Below w.heap.size w w':=by
 unfold Cm
 obtain⟨S,H,F,L,je⟩:=M
 dsimp only
 have m1:=A.s.max;have m2:=A.h.max;have m3:=A.f.max;have m4:=A.l.max
 dsimp only at m1 m2 m3 m4
 obtain⟨o1,vC⟩:∃ o:Obj,o=.cells #[Y aS S.length cS,Y aH H.length cH,Y aF F.length cF,Y aL L.length cL,O J je] 25:=⟨_,rfl⟩
 obtain⟨o2,jk⟩:∃ o:Obj,o=.cells #[Y none 0 0,Y none 0 0,Y none 0 0,Y none 0 0,O J 0] 25:=⟨_,rfl⟩
 have B0:Below w.heap.size w ((w.alloc o1).alloc o2):=below_alloc2 w o1 o2
 have tq:Qi (((w.alloc o1).alloc o2).heap[w.heap.size]?=some o1):=by show _=_;rw[fU _ _ _ (by simp),fP]
 have xh:Qi (((w.alloc o1).alloc o2).heap[w.heap.size+1]?=some o2):=by
  have:=fP (w.alloc o1) o2
  rwa [show (w.alloc o1).heap.size=w.heap.size+1 by simp] at this
 have z0:w.heap.size+2<=((w.alloc o1).alloc o2).heap.size:=by simp
 have HA:Qi (At w aS aH aF aL cS cH cF cL ⟨S,H,F,L,je⟩):=A
 clear A
 go_enter func101,ntmps101
 go_wp2_with fail
 rw[<- vC,<- jk]
 generalize (w.alloc o1).alloc o2=W0 at *
 subst vC jk
 have ul:Qi _:=HA.o.below B0
 refine(a7j aS cS S W0 ul.o.s).mono ?_
 rintro e w1 ⟨gS,kS,rfl,TJ,bu⟩
 have b1:=B0.trans (bu.mono B0.size)
 have KU:Qi (w1.heap[w.heap.size]?=_):=(bu.block w.heap.size (fC tq.o)).trans tq.o
 have XE:Qi (w1.heap[w.heap.size+1]?=_):=(bu.block (w.heap.size+1) (fC xh.o)).trans xh.o
 have zx1:w.heap.size+2<=w1.heap.size:=dQ z0 bu.size
 have WA:Qi (w1.ownsRow w.heap.size 64 6 (Y gS S.length kS) S.length (encS S)):=fQ TJ (by omega)
 clear TJ bu ul tq xh 
 obtain⟨q0,q1,q2,q3,q4,f0,f1,f2,f3,f4,qs⟩:=Aj KU.o
 have B1:Below w.heap.size w (w1.setCell ⟨w.heap.size,0,none⟩ (Y gS S.length kS)):=b1.setCell (aC _) _
 have iy:Qi ((w1.setCell ⟨w.heap.size,0,none⟩ (Y gS S.length kS)).heap[w.heap.size]?=some (.cells #[Y gS S.length kS,Y aH H.length cH,Y aF F.length cF,Y aL L.length cL,O J je] 25 (0,0))):=by
  have:=dO (i:=0) KU.o (Y gS S.length kS)
  show _=_
  simpa using this
 have ww:Qi ((w1.setCell ⟨w.heap.size,0,none⟩ (Y gS S.length kS)).heap[w.heap.size+1]?=_):=(dM w1 ⟨w.heap.size,0,none⟩ (Y gS S.length kS) (w.heap.size+1) (by show w.heap.size+1≠w.heap.size;omega)).trans XE.o
 have z1:w.heap.size+2<=(w1.setCell ⟨w.heap.size,0,none⟩ (Y gS S.length kS)).heap.size:=by rw[eQ];exact zx1
 have OS1:Qi ((w1.setCell ⟨w.heap.size,0,none⟩ (Y gS S.length kS)).ownsRow w.heap.size 64 6 (Y gS S.length kS) S.length (encS S)):=Ej WA.o KU.o (by first|decide|exact Ex.ne _ _ (by decide)) _
 clear zx1 XE WA B0 b1 z0
 go_wp2_with fail
 generalize w1.setCell ⟨w.heap.size,0,none⟩ (Y gS S.length kS)=W1 at *
 clear q0 q1 q2 q3 q4 f0 f1 f2 f3 f4 qs KU
 have yD:Qi _:=HA.o.below B1
 refine(Py aH cH H W1 yD.o.h).mono ?_
 rintro e w2 ⟨gH,kH,rfl,TK,dm⟩
 have b2:=B1.trans (dm.mono B1.size)
 have FT:Qi (w2.heap[w.heap.size]?=_):=(dm.block w.heap.size (fC iy.o)).trans iy.o
 have XD:Qi (w2.heap[w.heap.size+1]?=_):=(dm.block (w.heap.size+1) (fC ww.o)).trans ww.o
 have zx2:w.heap.size+2<=w2.heap.size:=dQ z1 dm.size
 have VZ:Qi (w2.ownsRow w.heap.size 64 6 (Y gS S.length kS) S.length (encS S)):=own_below OS1.o dm
 have WF:Qi (w2.ownsRow w.heap.size 3 1 (Y gH H.length kH) H.length (encI H)):=fQ TK (by omega)
 clear TK dm yD iy ww OS1
 obtain⟨q0,q1,q2,q3,q4,f0,f1,f2,f3,f4,qs⟩:=Aj FT.o
 have B2:Below w.heap.size w (w2.setCell ⟨w.heap.size,1,none⟩ (Y gH H.length kH)):=b2.setCell (aC _) _
 have rJ:Qi ((w2.setCell ⟨w.heap.size,1,none⟩ (Y gH H.length kH)).heap[w.heap.size]?=some (.cells #[Y gS S.length kS,Y gH H.length kH,Y aF F.length cF,Y aL L.length cL,O J je] 25 (0,0))):=by
  have:=dO (i:=1) FT.o (Y gH H.length kH)
  show _=_
  simpa using this
 have AC:Qi ((w2.setCell ⟨w.heap.size,1,none⟩ (Y gH H.length kH)).heap[w.heap.size+1]?=_):=(dM w2 ⟨w.heap.size,1,none⟩ (Y gH H.length kH) (w.heap.size+1) (by show w.heap.size+1≠w.heap.size;omega)).trans XD.o
 have z2:w.heap.size+2<=(w2.setCell ⟨w.heap.size,1,none⟩ (Y gH H.length kH)).heap.size:=by rw[eQ];exact zx2
 have OS2:Qi ((w2.setCell ⟨w.heap.size,1,none⟩ (Y gH H.length kH)).ownsRow w.heap.size 64 6 (Y gS S.length kS) S.length (encS S)):=Ej VZ.o FT.o (by first|decide|exact Ex.ne _ _ (by decide)) _
 have OH2:Qi ((w2.setCell ⟨w.heap.size,1,none⟩ (Y gH H.length kH)).ownsRow w.heap.size 3 1 (Y gH H.length kH) H.length (encI H)):=Ej WF.o FT.o (by first|decide|exact Ex.ne _ _ (by decide)) _
 clear zx2 XD VZ WF B1 b2 z1
 go_wp2_with fail
 generalize w2.setCell ⟨w.heap.size,1,none⟩ (Y gH H.length kH)=W2 at *
 clear q0 q1 q2 q3 q4 f0 f1 f2 f3 f4 qs FT
 have LC:Qi _:=HA.o.below B2
 refine(Py aF cF F W2 LC.o.f).mono ?_
 rintro e w3 ⟨gF,kF,rfl,NI,gu⟩
 have b3:=B2.trans (gu.mono B2.size)
 have BV:Qi (w3.heap[w.heap.size]?=_):=(gu.block w.heap.size (fC rJ.o)).trans rJ.o
 have XC:Qi (w3.heap[w.heap.size+1]?=_):=(gu.block (w.heap.size+1) (fC AC.o)).trans AC.o
 have zx3:w.heap.size+2<=w3.heap.size:=dQ z2 gu.size
 have VY:Qi (w3.ownsRow w.heap.size 64 6 (Y gS S.length kS) S.length (encS S)):=own_below OS2.o gu
 have WE:Qi (w3.ownsRow w.heap.size 3 1 (Y gH H.length kH) H.length (encI H)):=own_below OH2.o gu
 have WH:Qi (w3.ownsRow w.heap.size 3 1 (Y gF F.length kF) F.length (encI F)):=fQ NI (by omega)
 have DHF:Dj (Y gH H.length kH) (Y gF F.length kF):=Wx OH2.o NI (aC _)
 clear NI gu LC rJ AC OS2 OH2
 obtain⟨q0,q1,q2,q3,q4,f0,f1,f2,f3,f4,qs⟩:=Aj BV.o
 have B3:Below w.heap.size w (w3.setCell ⟨w.heap.size,2,none⟩ (Y gF F.length kF)):=b3.setCell (aC _) _
 have tH:Qi ((w3.setCell ⟨w.heap.size,2,none⟩ (Y gF F.length kF)).heap[w.heap.size]?=some (.cells #[Y gS S.length kS,Y gH H.length kH,Y gF F.length kF,Y aL L.length cL,O J je] 25 (0,0))):=by
  have:=dO (i:=2) BV.o (Y gF F.length kF)
  show _=_
  simpa using this
 have zC:Qi ((w3.setCell ⟨w.heap.size,2,none⟩ (Y gF F.length kF)).heap[w.heap.size+1]?=_):=(dM w3 ⟨w.heap.size,2,none⟩ (Y gF F.length kF) (w.heap.size+1) (by show w.heap.size+1≠w.heap.size;omega)).trans XC.o
 have z3:w.heap.size+2<=(w3.setCell ⟨w.heap.size,2,none⟩ (Y gF F.length kF)).heap.size:=by rw[eQ];exact zx3
 have OS3:Qi ((w3.setCell ⟨w.heap.size,2,none⟩ (Y gF F.length kF)).ownsRow w.heap.size 64 6 (Y gS S.length kS) S.length (encS S)):=Ej VY.o BV.o (by first|decide|exact Ex.ne _ _ (by decide)) _
 have OH3:Qi ((w3.setCell ⟨w.heap.size,2,none⟩ (Y gF F.length kF)).ownsRow w.heap.size 3 1 (Y gH H.length kH) H.length (encI H)):=Ej WE.o BV.o (by first|decide|exact Ex.ne _ _ (by decide)) _
 have OF3:Qi ((w3.setCell ⟨w.heap.size,2,none⟩ (Y gF F.length kF)).ownsRow w.heap.size 3 1 (Y gF F.length kF) F.length (encI F)):=Ej WH.o BV.o (by first|decide|exact Ex.ne _ _ (by decide)) _
 clear zx3 XC VY WE WH B2 b3 z2
 go_wp2_with fail
 generalize w3.setCell ⟨w.heap.size,2,none⟩ (Y gF F.length kF)=W3 at *
 clear q0 q1 q2 q3 q4 f0 f1 f2 f3 f4 qs BV
 have QB:Qi _:=HA.o.below B3
 refine(Py aL cL L W3 QB.o.l).mono ?_
 rintro e w4 ⟨gL,kL,rfl,IL,qK⟩
 have b4:=B3.trans (qK.mono B3.size)
 have BU:Qi (w4.heap[w.heap.size]?=_):=(qK.block w.heap.size (fC tH.o)).trans tH.o
 have PP:Qi (w4.heap[w.heap.size+1]?=_):=(qK.block (w.heap.size+1) (fC zC.o)).trans zC.o
 have zx4:w.heap.size+2<=w4.heap.size:=dQ z3 qK.size
 have VX:Qi (w4.ownsRow w.heap.size 64 6 (Y gS S.length kS) S.length (encS S)):=own_below OS3.o qK
 have WC:Qi (w4.ownsRow w.heap.size 3 1 (Y gH H.length kH) H.length (encI H)):=own_below OH3.o qK
 have WG:Qi (w4.ownsRow w.heap.size 3 1 (Y gF F.length kF) F.length (encI F)):=own_below OF3.o qK
 have WB:Qi (w4.ownsRow w.heap.size 3 1 (Y gL L.length kL) L.length (encI L)):=fQ IL (by omega)
 have DHL:Dj (Y gH H.length kH) (Y gL L.length kL):=Wx OH3.o IL (aC _)
 have DFL:Dj (Y gF F.length kF) (Y gL L.length kL):=Wx OF3.o IL (aC _)
 clear IL qK QB tH zC OS3 OH3 OF3
 obtain⟨q0,q1,q2,q3,q4,f0,f1,f2,f3,f4,qs⟩:=Aj BU.o
 obtain⟨r0,r1,r2,r3,r4,g0,g1,g2,g3,g4,rs⟩:=Aj PP.o
 have rs0:w.heap.size+1≠w.heap.size:=by omega
 have HF:Qi (Rw (mm.J3 (w4.setCell ⟨w.heap.size,3,none⟩ (Y gL L.length kL)) (w.heap.size+1) (Y gS S.length kS) (Y gH H.length kH) (Y gF F.length kF) (Y gL L.length kL) (O J je)) w.heap.size gS gH gF gL kS kH kF kL ⟨S,H,F,L,je⟩):=by
  have hR:(w4.setCell ⟨w.heap.size,3,none⟩ (Y gL L.length kL)).heap[w.heap.size+1]?=_:=(dM w4 ⟨w.heap.size,3,none⟩ (Y gL L.length kL) (w.heap.size+1) (by show w.heap.size+1≠w.heap.size;omega)).trans PP.o
  have r:Rw (w4.setCell ⟨w.heap.size,3,none⟩ (Y gL L.length kL)) w.heap.size gS gH gF gL kS kH kF kL ⟨S,H,F,L,je⟩ :=
   ⟨Ej VX.o BU.o (by first|decide|exact Ex.ne _ _ (by decide)) _,Ej WC.o BU.o (by first|decide|exact Ex.ne _ _ (by decide)) _,Ej WG.o BU.o (by first|decide|exact Ex.ne _ _ (by decide)) _,Ej WB.o BU.o (by first|decide|exact Ex.ne _ _ (by decide)) _,DHF,DHL,DFL,by rw[eQ];omega⟩
  exact r.J3 (Xb:=X0) hR _ _ _ _ _
 clear VX WC WG WB BU PP z3
 go_wp2
 refine bodyPost_ret (v:=.agg #[Y gS S.length kS,Y gH H.length kH,Y gF F.length kF,Y gL L.length kL,O J je]) (by simp[results,results101,go_sem,r0,r1,r2,r3,r4]) rfl ⟨_,_,_,_,_,_,_,_,rfl,HF.o,?_⟩
 exact(b4.setCell (aC _) _).trans (O9 _ _ _ _ _ _ _ _ (by omega))
section
open Deep Go.Sort
variable {Xb:Ex}
def Lh(w:Wq)(g o:Nat)(s:Sl):Wq :=
 (((((w.setCell ⟨g,o,none⟩ (O J s.refs)).setCell ⟨g,o+1,none⟩ (O J s.a)).setCell ⟨g,o+2,none⟩ (O J s.b)).setCell ⟨g,o+3,none⟩ (O J s.unt)).setCell ⟨g,o+4,none⟩ (.bool s.inn)).setCell ⟨g,o+5,none⟩ (O J s.next)
theorem a6v(S:List Sl)(j:Nat)(h:j<S.length)(s:Sl) :
  ((((((encS S).set (j*6) (O J s.refs)).set (j*6+1) (O J s.a)).set (j*6+2) (O J s.b)).set (j*6+3) (O J s.unt)).set (j*6+4) (.bool s.inn)).set (j*6+5) (O J s.next)=encS (S.set j s):=by
 induction S generalizing j with
 | nil=>simp at h
 | cons x S ih =>
  match j with
  | 0=>simp[Ee,Sl.enc]
  | j+1 =>
   have:=ih j (by simpa using h)
   rw[fV,Ee,Ee,<- this]
   simp only[Sl.enc,fZ,eP,show (j+1)*6=j*6+6 by omega,show j*6+6+1=j*6+1+6 by omega,show j*6+6+2=j*6+2+6 by omega,show j*6+6+3=j*6+3+6 by omega,show j*6+6+4=j*6+4+6 by omega,show j*6+6+5=j*6+5+6 by omega,fV]
theorem a6t(S:List Sl)(j:Nat)(h:j<S.length)(r:Int):(encS S).set (j*6) (O J r)=encS (S.set j { S[j] with refs:=r }):=by
 induction S generalizing j with
 | nil=>simp at h
 | cons x S ih =>
  match j with
  | 0=>simp[Ee,Sl.enc]
  | j+1 =>
   have:=ih j (by simpa using h)
   rw[fV,Ee,Ee,List.getElem_cons_succ,<- this]
   simp only[Sl.enc,fZ,eP,show (j+1)*6=j*6+6 by omega,fV]
theorem Mine.Lh{lo g j:Nat}{aH aF aL:Option Addr}{cS cH cF cL:Nat}{M:Mm}(m:Mine Xb w B lo (some ⟨g,0,none⟩) aH aF aL cS cH cF cL M)(h:j<M.s.length)(s:Sl) :
  Mine Xb (mm.Lh w g (j*6) s) B lo (some ⟨g,0,none⟩) aH aF aL cS cH cF cL { M with s:=M.s.set j s }:=by
 obtain⟨hB,⟨hs,hh,f,l,hf,vF,fl,lz⟩,m1,m2,m3,m4⟩:=m
 have hg:(Value.slice (some ⟨g,0,none⟩) M.s.length cS).ownBlock=some g:=rfl
 have ne:∀ {v:dU} {n:Nat} {xs:List dU},w.ownsRow lo 3 1 v n xs->v.ownBlock≠some g:=fun h e=>D9 h hs (by first|decide|exact Ex.ne _ _ (by decide)) g e hg
 have oth:∀ {v:dU} {n:Nat} {xs:List dU},w.ownsRow lo 3 1 v n xs->(mm.Lh w g (j*6) s).ownsRow lo 3 1 v n xs:=fun h=>by
  have:=ne h
  unfold mm.Lh
  iterate 6 (refine dV ?_ this _)
  exact h
 have iw:B≠g:=fun e=>own_ne hs hB (by first|decide|exact Ex.ne _ _ (by decide)) (by rw[hg,e])
 refine⟨?_,⟨?_,oth hh,oth f,oth l,hf,vF,fl,by simp only[mm.Lh,eQ];exact lz⟩,by dsimp only;rw[dZ];exact m1,m2,m3,m4⟩
 ·dsimp only
  rw[dZ]
  unfold mm.Lh
  repeat rw[dM _ _ _ _ (by dsimp only;exact iw)]
  exact hB
 ·dsimp only
  rw[dZ,<- a6v M.s j h s]
  unfold mm.Lh
  exact((((((hs.stored _ _).1.stored _ _).1.stored _ _).1.stored _ _).1.stored _ _).1.stored _ _).1
theorem Du{n bg:Nat}{S:List Sl}(h:w.ownsRow lo 64 6 (Y (some ⟨g,0,none⟩) n bg) n (encS S)){j:Nat}(hj:j<S.length) :
  w.cell? ⟨g,j*6,none⟩=some (O J S[j].refs)/\w.cell? ⟨g,j*6+1,none⟩=some (O J S[j].a)/\w.cell? ⟨g,j*6+2,none⟩=some (O J S[j].b) /\
  w.cell? ⟨g,j*6+3,none⟩=some (O J S[j].unt)/\w.cell? ⟨g,j*6+4,none⟩=some (.bool S[j].inn)/\w.cell? ⟨g,j*6+5,none⟩=some (O J S[j].next)/\∀ q,w.frozen? ⟨g,q,none⟩=false:=by
 have hn:S.length*6=n*6:=by rw[<- h.1,Ie]
 have e:∀ q,q<6->w.cell? ⟨g,j*6+q,none⟩=(S[j].enc)[q]?:=fun q hq=>by
  rw[h.cellAt _ (by omega),Sr S j q hj hq]
 exact⟨e 0 (by omega),e 1 (by omega),e 2 (by omega),e 3 (by omega),e 4 (by omega),e 5 (by omega),fun q=>h.frozenAt q⟩
theorem Gf{n bg:Nat}{l:List Int}(h:w.ownsRow lo 3 1 (Y (some ⟨g,0,none⟩) n bg) n (encI l)){j:Nat}(hj:j<l.length) :
  w.cell? ⟨g,j,none⟩=some (O J l[j])/\w.frozen? ⟨g,j,none⟩=false:=by
 have hn:l.length=n*1:=by rw[<- h.1,Dz]
 exact⟨by rw[h.cellAt _ (by omega)];simp[encI,hj],h.frozenAt j⟩
theorem C9(h:w.ownsRow lo e size (Y ao n bg) n xs)(hn:0<n):∃ g,ao=some ⟨g,0,none⟩/\lo<=g/\g<w.heap.size/\n<=bg/\bg<=9223372036854775807:=by
 rcases h.2 with ⟨_,h0⟩|⟨g,VP,sU,hv,hg,hb,hc,hm,_⟩
 ·omega
 ·injection hv with h1 _ h3
  subst h1 h3
  exact⟨g,rfl,hg,fC hb,hc,by unfold maxLen at hm;exact hm⟩
theorem b4t(w:Wq)(B lo gS gF n j cS cH cF cL:Nat)(aH aL:Option Addr)(M:Mm)(ka kb u:Int)
  (m:Mine Xb w B lo (some ⟨gS,0,none⟩) aH (some ⟨gF,0,none⟩) aL cS cH cF cL M) (hF:M.f.length=n+1) (hj:j<M.s.length) (hx:M.f[n]'(by omega)=j) (hn:n+1<=cF) (hc:cF<=9223372036854775807) :
  aI Pg 203 #[Ae B,.agg #[O J ka,O J kb],O J u] w fun e w'=>e=.returned (.tuple #[O J j,.bool true]) /\
   ∃ w1,Below w.heap.size w w1/\w'=(mm.Lh (w1.setCell ⟨B,2,none⟩ (Y (some ⟨gF,0,none⟩) n cF)) gS (j*6) ⟨1,ka,kb,u,false,M.s[j].next⟩).drew:=by
 unfold Ae
 have UE:n<=cF:=by omega
 have hS:M.s.length<=9223372036854775807:=by have:=m.m1;omega
 have hv:inB (j:Int) 0 ((M.s.length:Int) - 1)=true:=(Ar _ _ _).2 (by omega)
 have yB:Qi (∀ W:Wq,aI Pg 111 #[Cm (some ⟨gS,0,none⟩) aH (some ⟨gF,0,none⟩) aL cS cH cF cL M,O J j] W fun e w'=>e=.returned (.bool true)/\Below W.heap.size W w'):=fun W=>hv ▸ Ep _ aH _ aL _ _ _ _ cS cH cF cL M.w j W hS
 obtain⟨s,hs⟩:∃ s,s=M.s[j]:=⟨_,rfl⟩
 have HS:Qi (M.s[j]=s):=hs.symm
 have HX:Qi (∀ W,Mine Xb W B lo (some ⟨gS,0,none⟩) aH (some ⟨gF,0,none⟩) aL cS cH cF cL M->(W.cell? ⟨gS,j*6,none⟩=some (O J s.refs)/\W.cell? ⟨gS,j*6+1,none⟩=some (O J s.a)/\W.cell? ⟨gS,j*6+2,none⟩=some (O J s.b)/\W.cell? ⟨gS,j*6+3,none⟩=some (O J s.unt)/\W.cell? ⟨gS,j*6+4,none⟩=some (.bool s.inn)/\W.cell? ⟨gS,j*6+5,none⟩=some (O J s.next)/\∀ q,W.frozen? ⟨gS,q,none⟩=false)/\W.cell? ⟨gF,n,none⟩=some (O J j)):=fun W m'=>by
  have:=(Gf m'.c.f (j:=n) (by omega)).1
  rw[hx] at this
  rw[hs]
  exact⟨Du m'.c.s hj,this⟩
 have HD:Qi (∀ W,Mine Xb W B lo (some ⟨gS,0,none⟩) aH (some ⟨gF,0,none⟩) aL cS cH cF cL M->B≠gS/\B≠gF/\gS<W.heap.size/\gF<W.heap.size/\W.heap[B]?=some (.cells (eG (Y (some ⟨gS,0,none⟩) M.s.length cS :: Y aH M.h.length cH :: Y (some ⟨gF,0,none⟩) M.f.length cF :: Y aL M.l.length cL :: O J M.w :: Xb.rs)) Xb.rt (0,0))):=fun W m' =>
  ⟨(fun e=>own_ne m'.c.s m'.box (by first|decide|exact Ex.ne _ _ (by decide)) (by rw[e];rfl)),(fun e=>own_ne m'.c.f m'.box (by first|decide|exact Ex.ne _ _ (by decide)) (by rw[e];rfl)),(m'.c.s.lt _ rfl).2,(m'.c.f.lt _ rfl).2,m'.box⟩
 obtain⟨ok,qh⟩:∃ o:Obj,o=.cells #[O J ka,O J kb] 30:=⟨_,rfl⟩
 have HM:Qi (Mine Xb (w.alloc ok) B lo (some ⟨gS,0,none⟩) aH (some ⟨gF,0,none⟩) aL cS cH cF cL M):=m.below (A7 _ _)
 have HB:Qi (Below w.heap.size w (w.alloc ok)):=A7 _ _
 have HK:Qi ((w.alloc ok).heap[w.heap.size]?=some (.cells #[O J ka,O J kb] 30 (0,0))):=qh ▸ fP w ok
 obtain⟨-,-,-,-,hB⟩:=HD.o _ m
 obtain⟨-,-,q2,-,-,-,-,-,-,-,qs⟩:=Aj hB
 rw[hF] at q2
 have LV:n<M.f.length:=by omega
 have FP:Qi (M.f.length=n+1):=hF
 have HQ:Qi (w.heap.size≠B):=by show _≠_;omega
 clear m hx hv hB hs hF
 go_enter func203,ntmps203
 go_wp2_with fail
 rw[<- qh]
 clear q2 qs
 generalize w.alloc ok=W0 at *
 clear qh
 obtain⟨d1,d2,l1,l2,hB⟩:=HD.o _ HM.o
 obtain⟨q0,q1,q2,q3,q4,-,-,-,-,-,qs⟩:=Aj hB
 obtain⟨-,cx⟩:=HX.o _ HM.o
 have cB:∀ (d:Nat) (os:Array Obj),aI Pg 111 #[Cm (some ⟨gS,0,none⟩) aH (some ⟨gF,0,none⟩) aL cS cH cF cL M,O J j] (grow (redrawn W0 d) os) fun e uh=>e=.returned (.bool true)/\∃ p:Regrown,uh=grow (redrawn W0 p.d) p.os:=fun d os=>Calls.regrown_of (yB.o _)
 have Q0:=fO q0;have Q1:=fO q1;have Q2:=fO q2;have Q3:=fO q3;have Q4:=fO q4;have QX:=fO cx
 clear q0 q1 q2 q3 q4 qs cx hB
 refine wp_region_quiet_below (by kernel_rfl) (by kernel_rfl) ?_
 repeat (quiet_step (first|exact cB _ _))
 refine wpQuiet_nil ?_
 intro _ rq
 obtain⟨⟨dq,rD⟩,ql⟩:=rq
 subst ql
 have iy:Qi _:=below_regrown W0 dq rD
 generalize grow (redrawn W0 dq) rD=w1 at *
 clear cB Q0 Q1 Q2 Q3 Q4 QX d1 d2 l1 l2 yB
 have PS:Qi (Mine Xb w1 B lo (some ⟨gS,0,none⟩) aH (some ⟨gF,0,none⟩) aL cS cH cF cL M):=HM.o.below iy.o
 have KO:Qi (w1.heap[w.heap.size]?=some (.cells #[O J ka,O J kb] 30 (0,0))):=(iy.o.block _ (fC HK.o)).trans HK.o
 have rJ:Qi (Below w.heap.size w w1):=HB.o.trans (iy.o.mono HB.o.size)
 clear iy HM HK HB
 have DN:Qi (Mine Xb (w1.setCell ⟨B,2,none⟩ (Y (some ⟨gF,0,none⟩) n cF)) B lo (some ⟨gS,0,none⟩) aH (some ⟨gF,0,none⟩) aL cS cH cF cL { M with f:=M.f.take n }):=PS.o.pop FP.o
 have vI:Qi ((w1.setCell ⟨B,2,none⟩ (Y (some ⟨gF,0,none⟩) n cF)).heap[w.heap.size]?=some (.cells #[O J ka,O J kb] 30 (0,0))):=(dM _ _ _ _ (by dsimp only;exact HQ.o)).trans KO.o
 have HW:Qi (∃ w2,Below w.heap.size w w2/\w1.setCell ⟨B,2,none⟩ (Y (some ⟨gF,0,none⟩) n cF)=w2.setCell ⟨B,2,none⟩ (Y (some ⟨gF,0,none⟩) n cF)):=⟨w1,rJ.o,rfl⟩
 obtain⟨d1,d2,l1,l2,hB⟩:=HD.o _ PS.o
 obtain⟨q0,q1,q2,q3,q4,f0,f1,f2,f3,f4,qs⟩:=Aj hB
 obtain⟨-,cx⟩:=HX.o _ PS.o
 clear hB HD HX PS KO rJ
 go_wp2
 clear q0 q1 q2 q3 q4 f0 f1 f2 f3 f4 qs cx l1 l2
 generalize w1.setCell ⟨B,2,none⟩ (Y (some ⟨gF,0,none⟩) n cF)=w2 at *
 obtain⟨q0,-,-,-,-,-,-,-,-,-,qs⟩:=Aj DN.o.box
 have l1:gS<w2.heap.size:=(DN.o.c.s.lt _ rfl).2
 obtain⟨c0,c1,c2,c3,c4,c5,xR⟩:=Du DN.o.c.s (j:=j) hj
 dsimp only at q0 c0 c1 c2 c3 c4 c5
 rw[HS.o] at c0 c1 c2 c3 c4 c5
 have k0:w2.cell? ⟨w.heap.size,0,none⟩=some (O J ka):=by rw[dN vI.o];rfl
 have k1:w2.cell? ⟨w.heap.size,1,none⟩=some (O J kb):=by rw[dN vI.o];rfl
 have ks:=fC vI.o
 clear DN vI HQ FP
 go_region
 all_goals go_wp2
 all_goals go_ret2
 all_goals
  obtain⟨w3,h3,h4⟩:=HW.o
  subst h4
  exact⟨rfl,w3,h3,by rw[HS.o];rfl⟩
theorem b4u(w:Wq)(B:Nat)(sv hv lv nv:dU)(aF:Option Addr)(cF:Nat)(ka kb u:Int)
  (hB:w.heap[B]?=some (.cells (eG (sv :: hv :: Y aF 0 cF :: lv :: nv :: Xb.rs)) Xb.rt (0,0))) :
  aI Pg 203 #[Ae B,.agg #[O J ka,O J kb],O J u] w fun e w'=>e=.returned (.tuple #[O J 0,.bool false])/\Below w.heap.size w w':=by
 unfold Ae
 obtain⟨q0,q1,q2,q3,q4,f0,f1,f2,f3,f4,qs⟩:=Aj hB
 clear hB
 go_enter func203,ntmps203
 go_wp2_with fail
 go_quiet (fail)
 go_wp2
 go_ret2
 exact⟨rfl,(A7 _ _).trans ⟨rfl,rfl,rfl,aC _,fun _ _=>rfl⟩⟩
theorem Mine.b0p{lo g:Nat}{aH aF aL:Option Addr}{cS cH cF cL:Nat}{M:Mm}(m:Mine Xb w B lo (some ⟨g,0,none⟩) aH aF aL cS cH cF cL M):B≠g :=
 fun e=>own_ne m.c.s m.box (by first|decide|exact Ex.ne _ _ (by decide)) (by rw[e];rfl)
theorem Mine.ne_h{lo g:Nat}{aS aF aL:Option Addr}{cS cH cF cL:Nat}{M:Mm}(m:Mine Xb w B lo aS (some ⟨g,0,none⟩) aF aL cS cH cF cL M):B≠g :=
 fun e=>own_ne m.c.h m.box (by first|decide|exact Ex.ne _ _ (by decide)) (by rw[e];rfl)
theorem Mine.ne_f{lo g:Nat}{aS aH aL:Option Addr}{cS cH cF cL:Nat}{M:Mm}(m:Mine Xb w B lo aS aH (some ⟨g,0,none⟩) aL cS cH cF cL M):B≠g :=
 fun e=>own_ne m.c.f m.box (by first|decide|exact Ex.ne _ _ (by decide)) (by rw[e];rfl)
end
section
variable {Xb:Ex}
theorem b3o(w:Wq)(B gS nS j cS:Nat)(hv fv lv nv:dU)(r:Int)
  (hB:w.heap[B]?=some (.cells (eG (Y (some ⟨gS,0,none⟩) nS cS :: hv :: fv :: lv :: nv :: Xb.rs)) Xb.rt (0,0))) (hj:j<nS) (c0:w.cell? ⟨gS,j*6,none⟩=some (O J r)) (hr:r=0\/r=1000) :
  aI Pg 201 #[Ae B,O J j] w fun e w'=>e=.returned (.bool false)/\w=w':=by
 unfold Ae
 obtain⟨q0,q1,q2,q3,q4,f0,f1,f2,f3,f4,qs⟩:=Aj hB
 clear hB
 rcases hr with rfl|rfl
 all_goals
  go_enter func201,ntmps201
  go_wp2
  go_ret
  exact⟨rfl,rfl⟩
theorem b0a(w:Wq)(B gS nS j cS:Nat)(hv fv lv nv:dU)(r:Int)
  (hB:w.heap[B]?=some (.cells (eG (Y (some ⟨gS,0,none⟩) nS cS :: hv :: fv :: lv :: nv :: Xb.rs)) Xb.rt (0,0))) (hj:j<nS) (c0:w.cell? ⟨gS,j*6,none⟩=some (O J r)) (f0:w.frozen? ⟨gS,j*6,none⟩=false) (h0:0<r) (h1:r<1000) :
  aI Pg 201 #[Ae B,O J j] w fun e w'=>e=.returned (.bool true)/\w.setCell ⟨gS,j*6,none⟩ (O J (r+1))=w':=by
 unfold Ae
 obtain⟨q0,q1,q2,q3,q4,-,-,-,-,-,qs⟩:=Aj hB
 clear hB
 have e0:(r==0)=false:=by rw[beq_eq_false_iff_ne];omega
 have e1:(r==1000)=false:=by rw[beq_eq_false_iff_ne];omega
 go_enter func201,ntmps201
 go_wp2
 go_ret
 exact⟨rfl,rfl⟩
theorem b6r(w:Wq)(B gS nS j cS:Nat)(hv fv lv nv:dU)
  (hB:w.heap[B]?=some (.cells (eG (Y (some ⟨gS,0,none⟩) nS cS :: hv :: fv :: lv :: nv :: Xb.rs)) Xb.rt (0,0))) (hj:j<nS) (c0:w.cell? ⟨gS,j*6,none⟩=some (O J 0)) :
  aI Pg 197 #[Ae B,O J j] w fun e w'=>e=.returned (.bool false)/\w=w':=by
 unfold Ae
 obtain⟨q0,q1,q2,q3,q4,f0,f1,f2,f3,f4,qs⟩:=Aj hB
 clear hB
 go_enter func197,ntmps197
 go_wp2
 go_ret
 exact⟨rfl,rfl⟩
theorem b1g(w:Wq)(B gS nS j cS:Nat)(hv fv lv nv:dU)(r:Int)
  (hB:w.heap[B]?=some (.cells (eG (Y (some ⟨gS,0,none⟩) nS cS :: hv :: fv :: lv :: nv :: Xb.rs)) Xb.rt (0,0))) (hj:j<nS) (c0:w.cell? ⟨gS,j*6,none⟩=some (O J r)) (f0:w.frozen? ⟨gS,j*6,none⟩=false) (h0:1<r) (h1:r<=1000) :
  aI Pg 197 #[Ae B,O J j] w fun e w'=>e=.returned (.bool true)/\w.setCell ⟨gS,j*6,none⟩ (O J (r - 1))=w':=by
 unfold Ae
 obtain⟨q0,q1,q2,q3,q4,-,-,-,-,-,qs⟩:=Aj hB
 clear hB
 have e0:(r==0)=false:=by rw[beq_eq_false_iff_ne];omega
 have e1:(r - 1==0)=false:=by rw[beq_eq_false_iff_ne];omega
 go_enter func197,ntmps197
 go_wp2
 go_ret
 exact⟨rfl,rfl⟩
theorem Vt(w:Wq)(v:dU)(t:dX)(n:Nat)(hn:n=w.heap.size):∀ (j:Nat) (u:dU),([v]:List dU)[j]?=some u->(w.alloc (.cells #[v] t)).cell? ((⟨n,0,none⟩:Addr).add j)=some u:=by
 subst hn
 intro j u hj
 match j,hj with
 | 0,hj=>simp at hj;subst hj;simp[Addr.add]
theorem a6i(hg:((w.setCell ⟨gS,o,none⟩ u).alloc ob).grownBy w1 row)(q2:w.cell? ⟨B,2,none⟩=some v)(f2:w.frozen? ⟨B,2,none⟩=false)(h1:B≠gS)(h2:row≠some B)(hB:B<w.heap.size) :
  w1.cell? ⟨B,2,none⟩=some v/\w1.frozen? ⟨B,2,none⟩=false:=by
 have hk:w1.heap[B]?=w.heap[B]?:=by
  rw[hg.block B (by simp;omega) (fun e=>h2 e.symm),fU _ _ _ (by simp;omega),dM _ _ _ _ (by dsimp only;exact h1)]
 exact⟨(World.cell?_of_block (a:=⟨B,2,none⟩) hk).trans q2,(World.frozen?_of_block (a:=⟨B,2,none⟩) hk).trans f2⟩
theorem b3g(ao:Option Addr)(n bg:Nat)(w:Wq)(h:n<=bg)(zf:ao=none->n=0/\bg=0) :
  aI Pg 212 #[Y ao n bg] w fun e w'=>e=.returned (Y ao n n)/\w=w':=by
 cases ao with
 | none =>
  obtain⟨rfl,rfl⟩:=zf rfl
  go_enter func212,ntmps212
  go_wp2
  go_ret
  exact⟨rfl,rfl⟩
 | some ad =>
  go_enter func212,ntmps212
  go_wp2
  go_ret
  exact⟨rfl,rfl⟩
theorem Mine.Df{lo n:Nat}{aS aH aF aL a':Option Addr}{cS cH cF cL c':Nat}{M:Mm}(m:Mine Xb w B lo aS aH aF aL cS cH cF cL M)(F':List Int)(hm:F'.length*8<=140737488351000)(hb:Below w.heap.size w w1)(hn:F'.length=n)(ho:w1.ownsRow w.heap.size 3 1 (Y a' n c') n (encI F')) :
  Mine Xb (w1.setCell ⟨B,2,none⟩ (Y a' n c')) B lo aS aH a' aL cS cH c' cL { M with f:=F' }:=by
 subst hn
 have dh:=Wx m.c.h ho (aC _)
 have dl:=Wx m.c.l ho (aC _)
 obtain⟨hB,⟨s,h,f,l,hf,hl,fl,lz⟩,m1,m2,m3,m4⟩:=m.below hb
 refine⟨?_,⟨Ej s hB (by first|decide|exact Ex.ne _ _ (by decide)) _,Ej h hB (by first|decide|exact Ex.ne _ _ (by decide)) _,Ej (fQ ho m.c.lz) hB (by first|decide|exact Ex.ne _ _ (by decide)) _,Ej l hB (by first|decide|exact Ex.ne _ _ (by decide)) _,dh,hl,dl.symm,by rw[eQ];exact lz⟩,m1,m2,hm,m4⟩
 have:=dO (i:=2) hB (Y a' F'.length c')
 simpa using this
theorem b1f(w:Wq)(B gS nS j cS cF:Nat)(aF:Option Addr)(F:List Int)(hv lv nv:dU)
  (hB:w.heap[B]?=some (.cells (eG (Y (some ⟨gS,0,none⟩) nS cS :: hv :: Y aF F.length cF :: lv :: nv :: Xb.rs)) Xb.rt (0,0))) (hj:j<nS) (c0:w.cell? ⟨gS,j*6,none⟩=some (O J 1)) (f0:w.frozen? ⟨gS,j*6,none⟩=false)
  (iw:B≠gS) (hO:Dk (w.setCell ⟨gS,j*6,none⟩ (O J 0)) aF cF F) (hm:F.length*8<=140737488350000) :
  aI Pg 197 #[Ae B,O J j] w fun e w'=>e=.returned (.bool true)/\∃ a' c' w1,Below w.heap.size (w.setCell ⟨gS,j*6,none⟩ (O J 0)) w1 /\
   w1.ownsRow w.heap.size 3 1 (Y a' (F.length+1) c') (F.length+1) (encI (F ++ [(j:Int)]))/\w1.setCell ⟨B,2,none⟩ (Y a' (F.length+1) c')=w':=by
 unfold Ae
 obtain⟨q0,q1,q2,q3,q4,-,-,f2,-,-,qs⟩:=Aj hB
 obtain⟨i0,hi,ng,qj,pq⟩:=info_parts iI
 have hne':(⟨gS,j*6,none⟩:Addr) ≠ ⟨B,2,none⟩:=by intro h;injection h with h;omega
 have HO:Qi (Dk (w.setCell ⟨gS,j*6,none⟩ (O J 0)) aF cF F):=hO
 have HN:Qi (aF=none->F.length=0/\cF=0):=fun h=>⟨by have:=HO.o.nil h;have:=HO.o.le;omega,HO.o.nil h⟩
 have HN2:Qi (aF=none->F.length=0/\F.length=0):=fun h=>⟨(HN.o h).1,(HN.o h).1⟩
 have WZ:Qi (∀ ad,aF=some ad->∀ j' u,(encI F)[j']?=some u->((w.setCell ⟨gS,j*6,none⟩ (O J 0)).alloc (.cells #[O J j] 3)).cell? (ad.add j')=some u):=(HO.o.below (A7 _ _)).src
 have HE:Qi ((encI F).length=F.length*1):=by show _=_;rw[Dz,Nat.mul_one]
 have HLe:Qi (F.length<=cF):=HO.o.le
 have HMx:Qi (F.length<=9223372036854775807):=by show _<=_;omega
 clear hB hO
 go_enter func197,ntmps197
 go_wp2_with (first
  | (go_at_call 212;refine(b3g aF F.length cF _ HLe.o HN.o).mono ?_;rintro e w' ⟨rfl,rfl⟩)
  | (at_builtin;(refine wpList_append_grows _ rfl _ _ 23 rfl 3 i0 (O J 0) 1 8 underlying23 hi ng qj pq rfl (by first|decide|exact Ex.ne _ _ (by decide)) aF F.length F.length (encI F) rfl HN2.o HE.o WZ.o ⟨w.heap.size,0,none⟩ 1 1 [O J j] rfl rfl (Vt _ _ _ _ (eQ ..).symm) (by intro u hu;simp at hu;subst hu;rfl) (by omega) (by unfold maxLen;omega) (by omega) ?_;intro v w1 ou mi;obtain⟨g,bg,rfl⟩:=ownsRow_form ou (by omega);have BQ:Qi (w1.ownsRow ((w.setCell ⟨gS,j*6,none⟩ (O J 0)).alloc (.cells #[O J j] 3)).heap.size 3 1 (Y (some ⟨g,0,none⟩) (F.length+1) bg) (F.length+1) (encI F ++ [O J j])):=ou;have XY:Qi (((w.setCell ⟨gS,j*6,none⟩ (O J 0)).alloc (.cells #[O J j] 3)).grownBy w1 none):=mi;clear ou mi;obtain⟨r2,r3⟩:=a6i XY.o q2 f2 iw (by simp) qs)))
 go_ret
 refine⟨rfl,_,_,w1,?_,?_,rfl⟩
 ·exact((Below.refl _ _).alloc (by simp) _).grown XY.o (by simp) (fun k h=>by cases h)
 ·have:=fQ (base':=w.heap.size) BQ.o (by simp)
  rwa [show encI F ++ [O J (j:Int)]=encI (F ++ [(j:Int)]) by simp[encI]] at this
theorem a4k(j:Nat)(hj:j<M.s.length)(r:Int):Jv M j r=M.s.set j { M.s[j] with refs:=r }:=by
 simp[Jv,List.getD_eq_getElem?_getD,hj]
theorem L9(j:Nat)(hj:j<M.s.length):Eg M j=M.s[j].refs:=by
 simp[Eg,List.getD_eq_getElem?_getD,hj]
theorem a7a(w:Wq)(B lo:Nat)(aS aH aF aL:Option Addr)(cS cH cF cL:Nat)(i:Int)(m:Mine Xb w B lo aS aH aF aL cS cH cF cL M)(h0:0<=i)(h1:i<M.s.length)(hr:Eg M i=0\/Eg M i=1000) :
  aI Pg 201 #[Ae B,O J i] w fun e w'=>e=.returned (.bool false)/\w=w':=by
 unfold Ae
 obtain⟨j,rfl⟩:∃ j:Nat,i=j:=⟨i.toNat,by omega⟩
 have hj:j<M.s.length:=by omega
 obtain⟨gS,rfl,-,-,-,-⟩:=C9 m.c.s (by omega)
 rw[L9 M j hj] at hr
 exact b3o w B gS _ j cS _ _ _ _ _ m.box hj (Du m.c.s hj).1 hr
theorem b1e(w:Wq)(B lo:Nat)(aS aH aF aL:Option Addr)(cS cH cF cL:Nat)(i:Int)(m:Mine Xb w B lo aS aH aF aL cS cH cF cL M)(h0:0<=i)(h1:i<M.s.length)(hr:Eg M i=0) :
  aI Pg 197 #[Ae B,O J i] w fun e w'=>e=.returned (.bool false)/\w=w':=by
 unfold Ae
 obtain⟨j,rfl⟩:∃ j:Nat,i=j:=⟨i.toNat,by omega⟩
 have hj:j<M.s.length:=by omega
 obtain⟨gS,rfl,-,-,-,-⟩:=C9 m.c.s (by omega)
 rw[L9 M j hj] at hr
 exact b6r w B gS _ j cS _ _ _ _ m.box hj (hr ▸ (Du m.c.s hj).1)
theorem turned{M:Mm}{w:Wq}{B lo g j:Nat}{aH aF aL:Option Addr}{cS cH cF cL:Nat}(m:Mine Xb w B lo (some ⟨g,0,none⟩) aH aF aL cS cH cF cL M)(hj:j<M.s.length)(r:Int) :
  Mine Xb (w.setCell ⟨g,j*6,none⟩ (O J r)) B lo (some ⟨g,0,none⟩) aH aF aL cS cH cF cL { M with s:=Jv M j r }:=by
 rw[a4k M j hj r]
 exact m.U2 _ _ _ (a6t M.s j hj r)
end
theorem few:∀ (n:Nat) (l:List Int),l.Nodup->(∀ a∈l,0<=a/\a<n)->l.length<=n
 | 0,l,hn,h=>by
  match l,h with
  | [],_=>simp
  | a :: _,h=>have:=h a (by simp);omega
 | n+1,l,hn,h=>by
  have h1:=few n (l.erase (n:Int)) (hn.erase _) (fun a ha=>by
   have h3:=(hn.mem_erase_iff).1 ha
   have h4:=h a h3.2
   have h5:=h3.1
   omega)
  rw[List.length_erase] at h1
  split at h1 <;> omega
theorem keyf(h:w.heap[B]?=some (.cells #[v0,v1] t (0,0))):w.cell? ⟨B,0,none⟩=some v0/\w.cell? ⟨B,1,none⟩=some v1 :=
 ⟨by rw[dN h];rfl,by rw[dN h];rfl⟩
structure Gr(w0:Wq)(lo B:Nat)(w:Wq)(sv hv fv lv:dU)(S:List Sl)(H F L:List Int):Prop where
 box:w.heap[B]?=some (.cells #[sv,hv,fv,lv,O J 0] 25 (0,0))
 s:w.ownsRow lo 64 6 sv S.length (encS S)
 h:w.ownsRow lo 3 1 hv H.length (encI H)
 f:w.ownsRow lo 3 1 fv F.length (encI F)
 l:w.ownsRow lo 3 1 lv L.length (encI L)
 hf:Dj hv fv
 hl:Dj hv lv
 fl:Dj fv lv
 at_:lo<=B
 below:Below lo w0 w
theorem Ik{lo size n:Nat}{e:dX}{v u:dU}{xs:List dU}(h:w.ownsRow lo e size v n xs)(hg:(w.alloc ob).grownBy w1 u.ownBlock)(hd:Dj v u){B j:Nat}{x:dU}(iw:v.ownBlock≠some B):(w1.setCell ⟨B,j,none⟩ x).ownsRow lo e size v n xs :=
 dV ((h.alloc ob).kept hg hd.ne) iw x
theorem Dt{B:Nat}{u:dU}{o:Obj}(hB:w.heap[B]?=some o)(hg:(w.alloc ob).grownBy w1 u.ownBlock)(iw:u.ownBlock≠some B):w1.heap[B]?=some o:=by
 have:=fC hB
 rw[hg.block B (by simp;omega) (fun e=>iw e.symm),fU _ _ _ this,hB]
theorem Ii{lo B j:Nat}{u x:dU}(hb:Below lo w0 w)(hg:(w.alloc ob).grownBy w1 u.ownBlock)(hu:∀ k,u.ownBlock=some k->lo<=k)(hl:lo<=w.heap.size)(hB:lo<=B):Below lo w0 (w1.setCell ⟨B,j,none⟩ x) :=
 ((hb.alloc hl ob).grown hg (by simp;omega) hu).setCell hB x
theorem Np{x:dU}{xs:List dU}(h:w.ownsRow lo e size v n xs)(iw:v.ownBlock≠some B):(w.setCell ⟨B,j,none⟩ x).ownsRow lo e size v n xs :=
 dV h iw x
theorem Gr.b5u(G:Gr w0 lo B w sv hv fv lv S H F L)(ho:w1.ownsRow lo 3 1 v' (H.length+1) (encI H ++ [O J x]))(hg:(w.alloc ob).grownBy w1 hv.ownBlock)(ru:v'.ownBlock=hv.ownBlock\/v'.ownBlock=some (w.alloc ob).heap.size) :
  Gr w0 lo B (w1.setCell ⟨B,1,none⟩ v') sv v' fv lv S (H ++ [x]) F L:=by
 have hB:=Dt G.box hg (own_ne G.h G.box (by first|decide|exact Ex.ne _ _ (by decide)))
 have iw:v'.ownBlock≠some B:=own_ne ho hB (by first|decide|exact Ex.ne _ _ (by decide))
 have gm:∀ {u:dU} {n size:Nat} {e:dX} {xs:List dU},w.ownsRow lo e size u n xs->∀ g,u.ownBlock=some g->g<(w.alloc ob).heap.size:=fun h g hg=>by have:=(h.lt g hg).2;simp;omega
 have hz:lo<=w.heap.size:=by have:=fC G.box;have:=G.at_;omega
 refine⟨?_,?_,?_,?_,?_,?_,?_,?_,G.at_,Ii G.below hg (fun k hk=>(G.h.lt k hk).1) hz G.at_⟩
 ·have:=dO (i:=1) hB v'
  simpa using this
 ·exact Ik G.s hg (D9 G.s G.h (by first|decide|exact Ex.ne _ _ (by decide))) (own_ne G.s G.box (by first|decide|exact Ex.ne _ _ (by decide)))
 ·have:=Np (j:=1) (x:=v') ho iw
  rwa [show encI H ++ [O J x]=encI (H ++ [x]) by simp[encI],show H.length+1=(H ++ [x]).length by simp] at this
 ·exact Ik G.f hg ((G.hf).symm) (own_ne G.f G.box (by first|decide|exact Ex.ne _ _ (by decide)))
 ·exact Ik G.l hg ((G.hl).symm) (own_ne G.l G.box (by first|decide|exact Ex.ne _ _ (by decide)))
 ·exact(Dj.grown (w:=w.alloc ob) ((G.hf).symm) (gm G.f) ru).symm
 ·exact(Dj.grown (w:=w.alloc ob) ((G.hl).symm) (gm G.l) ru).symm
 ·exact G.fl
theorem Gr.b5s(G:Gr w0 lo B w sv hv fv lv S H F L)(ho:w1.ownsRow lo 3 1 v' (F.length+1) (encI F ++ [O J x]))(hg:(w.alloc ob).grownBy w1 fv.ownBlock)(ru:v'.ownBlock=fv.ownBlock\/v'.ownBlock=some (w.alloc ob).heap.size) :
  Gr w0 lo B (w1.setCell ⟨B,2,none⟩ v') sv hv v' lv S H (F ++ [x]) L:=by
 have hB:=Dt G.box hg (own_ne G.f G.box (by first|decide|exact Ex.ne _ _ (by decide)))
 have iw:v'.ownBlock≠some B:=own_ne ho hB (by first|decide|exact Ex.ne _ _ (by decide))
 have gm:∀ {u:dU} {n size:Nat} {e:dX} {xs:List dU},w.ownsRow lo e size u n xs->∀ g,u.ownBlock=some g->g<(w.alloc ob).heap.size:=fun h g hg=>by have:=(h.lt g hg).2;simp;omega
 have hz:lo<=w.heap.size:=by have:=fC G.box;have:=G.at_;omega
 refine⟨?_,?_,?_,?_,?_,?_,?_,?_,G.at_,Ii G.below hg (fun k hk=>(G.f.lt k hk).1) hz G.at_⟩
 ·have:=dO (i:=2) hB v'
  simpa using this
 ·exact Ik G.s hg (D9 G.s G.f (by first|decide|exact Ex.ne _ _ (by decide))) (own_ne G.s G.box (by first|decide|exact Ex.ne _ _ (by decide)))
 ·exact Ik G.h hg (G.hf) (own_ne G.h G.box (by first|decide|exact Ex.ne _ _ (by decide)))
 ·have:=Np (j:=2) (x:=v') ho iw
  rwa [show encI F ++ [O J x]=encI (F ++ [x]) by simp[encI],show F.length+1=(F ++ [x]).length by simp] at this
 ·exact Ik G.l hg ((G.fl).symm) (own_ne G.l G.box (by first|decide|exact Ex.ne _ _ (by decide)))
 ·exact Dj.grown (w:=w.alloc ob) (G.hf) (gm G.h) ru
 ·exact G.hl
 ·exact(Dj.grown (w:=w.alloc ob) ((G.fl).symm) (gm G.l) ru).symm
theorem Gr.b5y(G:Gr w0 lo B w sv hv fv lv S H F L)(ho:w1.ownsRow lo 3 1 v' (L.length+1) (encI L ++ [O J x]))(hg:(w.alloc ob).grownBy w1 lv.ownBlock)(ru:v'.ownBlock=lv.ownBlock\/v'.ownBlock=some (w.alloc ob).heap.size) :
  Gr w0 lo B (w1.setCell ⟨B,3,none⟩ v') sv hv fv v' S H F (L ++ [x]):=by
 have hB:=Dt G.box hg (own_ne G.l G.box (by first|decide|exact Ex.ne _ _ (by decide)))
 have iw:v'.ownBlock≠some B:=own_ne ho hB (by first|decide|exact Ex.ne _ _ (by decide))
 have gm:∀ {u:dU} {n size:Nat} {e:dX} {xs:List dU},w.ownsRow lo e size u n xs->∀ g,u.ownBlock=some g->g<(w.alloc ob).heap.size:=fun h g hg=>by have:=(h.lt g hg).2;simp;omega
 have hz:lo<=w.heap.size:=by have:=fC G.box;have:=G.at_;omega
 refine⟨?_,?_,?_,?_,?_,?_,?_,?_,G.at_,Ii G.below hg (fun k hk=>(G.l.lt k hk).1) hz G.at_⟩
 ·have:=dO (i:=3) hB v'
  simpa using this
 ·exact Ik G.s hg (D9 G.s G.l (by first|decide|exact Ex.ne _ _ (by decide))) (own_ne G.s G.box (by first|decide|exact Ex.ne _ _ (by decide)))
 ·exact Ik G.h hg (G.hl) (own_ne G.h G.box (by first|decide|exact Ex.ne _ _ (by decide)))
 ·exact Ik G.f hg (G.fl) (own_ne G.f G.box (by first|decide|exact Ex.ne _ _ (by decide)))
 ·have:=Np (j:=3) (x:=v') ho iw
  rwa [show encI L ++ [O J x]=encI (L ++ [x]) by simp[encI],show L.length+1=(L ++ [x]).length by simp] at this
 ·exact G.hf
 ·exact Dj.grown (w:=w.alloc ob) (G.hl) (gm G.h) ru
 ·exact Dj.grown (w:=w.alloc ob) (G.fl) (gm G.f) ru
theorem Gr.ans(G:Gr w0 lo B w sv hv fv lv S H F L)(h1:S.length*48<=140737488351232)(h2:H.length*8<=140737488351232)(h3:F.length*8<=140737488351232)(h4:L.length*8<=140737488351232) :
  Ans lo w (.agg #[sv,hv,fv,lv,O J 0]) ⟨S,H,F,L,0⟩:=by
 have ks:=G.s.lt;have kh:=G.h.lt;have kf:=G.f.lt;have kl:=G.l.lt
 obtain⟨aS,cS,rfl,rs⟩:=Jf.He G.s h1
 obtain⟨aH,cH,rfl,rh⟩:=Dk.He G.h h2
 obtain⟨aF,cF,rfl,rf⟩:=Dk.He G.f h3
 obtain⟨aL,cL,rfl,rl⟩:=Dk.He G.l h4
 refine⟨aS,aH,aF,aL,cS,cH,cF,cL,rfl,⟨rs,rh,rf,rl⟩,⟨?_,?_,?_,?_⟩⟩
 ·rintro ad rfl;exact(ks _ rfl).1
 ·rintro ad rfl;exact(kh _ rfl).1
 ·rintro ad rfl;exact(kf _ rfl).1
 ·rintro ad rfl;exact(kl _ rfl).1
end Go.Proofs.YthhgoenomehobaaGreat.mm
