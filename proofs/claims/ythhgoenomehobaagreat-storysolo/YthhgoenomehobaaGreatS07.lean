/- Parts. -/
import Derived.Test.YthhgoenomehobaaGreatS03
import Derived.Test.YthhgoenomehobaaGreatS06
import Derived.Test.YthhgoenomehobaaGreatS04
namespace Go.Proofs.YthhgoenomehobaaGreat.mm
set_option maxRecDepth 100000
set_option linter.unusedVariables false
open Go.Value renaming int → O, slice → Y
open Go.IntKind renaming i64 → J
section
open Go.ChangeShapes Go.WideShapes Go.ChangeAt Go.RowKit Go.Joins
variable {Xb:Ex}
theorem Ag.fine{w w':World}{Z:Nat->Prop}{ao:Option Addr}{cap:Nat}{l:List (Int × Int)}(r:Ag w ao cap l)(hf:Fine w w' Z)(hz:∀ ad,ao=some ad->¬ Z ad.block):Ag w' ao cap l:=by
 refine⟨r.le,r.max,r.nil,?_⟩
 rcases r.at_ with h|⟨b,o,e,hc⟩
 ·exact .inl h
 ·refine .inr ⟨b,o,e,fun i hi=>?_⟩
  have hb:b<w.heap.size:=by
   have:=(hc i hi).1
   exact cell_lt this
  have q:∀ x,w'.cell? ⟨b,x,none⟩=w.cell? ⟨b,x,none⟩:=fun x=>World.cell?_of_block (a:=⟨b,x,none⟩) (hf.block b hb (hz _ e))
  rw[q,q]
  exact hc i hi
theorem Cc(f:Fr)(n:Int)(aK:Option Addr)(cK:Nat)(w:World) :
  Calls Tryz.prog 171 #[.agg #[O J f.c.kind,O J f.c.a,O J f.c.b,O J f.c.time,O J f.c.bk,O J f.c.slot,O J f.pl,O J f.cur,O J f.prev,O J f.slot,O J f.n,Y aK f.keys.length cK,.bool f.done,O J f.e],O J n] w fun e w'=>e=.returned (.agg #[O J (toF f n).c.kind,O J (toF f n).c.a,O J (toF f n).c.b,O J (toF f n).c.time,O J (toF f n).c.bk,O J (toF f n).c.slot,O J (toF f n).pl,O J (toF f n).cur,O J (toF f n).prev,O J (toF f n).slot,O J (toF f n).n,Y aK (toF f n).keys.length cK,.bool (toF f n).done,O J (toF f n).e])/\Below w.heap.size w w':=by
 go_enter Tryz.func171,Tryz.ntmps171
 go_wp2
 refine bodyPost_ret (v:=.agg #[O J (toF f n).c.kind,O J (toF f n).c.a,O J (toF f n).c.b,O J (toF f n).c.time,O J (toF f n).c.bk,O J (toF f n).c.slot,O J (toF f n).pl,O J (toF f n).cur,O J (toF f n).prev,O J (toF f n).slot,O J (toF f n).n,Y aK (toF f n).keys.length cK,.bool (toF f n).done,O J (toF f n).e]) (by simp[results,Tryz.results171,go_sem,toF]) rfl ⟨rfl,?_⟩
 repeat (first|exact Below.refl _ _|refine Below.alloc ?_ (by simp <;> omega) _|refine Below.setCell ?_ (by simp <;> omega) _)
def stN(f:Fr):Int:=if f.cur<=0 then 0 else f.cur - 1
theorem Bo(M:Mm)(f:Fr)(B:Nat)(aS aH aF aL:Option Addr)(cS cH cF cL:Nat)(aK:Option Addr)(cK:Nat)(w:World)
  (hB:w.heap[B]?=some (.cells (List.toArray (Y aS M.slots.length cS :: Y aH M.heads.length cH :: Y aF M.free.length cF :: Y aL M.locks.length cL :: O J M.now :: Xb.rs)) Xb.rt (0,0)))
  (hc:f.cur<=1000) (hn:M.slots.length<=1000) :
  Calls Tryz.prog 200 #[.pointer (some ⟨B,0,none⟩),.agg #[O J f.c.kind,O J f.c.a,O J f.c.b,O J f.c.time,O J f.c.bk,O J f.c.slot,O J f.pl,O J f.cur,O J f.prev,O J f.slot,O J f.n,Y aK f.keys.length cK,.bool f.done,O J f.e]] w fun e w'=>e=.returned (.tuple #[O J (stN f),.bool (D7 M f)])/\Below w.heap.size w w':=by
 obtain⟨q0,q1,q2,q3,q4,-,-,-,-,-,qs⟩:=Aj hB
 clear hB
 by_cases h:f.cur<=0
 ·have e1:stN f=0:=by unfold stN;rw[if_pos h]
  have e2:D7 M f=false:=by
   cases hx:D7 M f
   ·rfl
   ·rw[Bv] at hx;omega
  rw[e1,e2]
  go_enter Tryz.func200,Tryz.ntmps200
  go_wp2_with (go_at_call 140;refine(Q7 _ _ h).mono ?_;rintro e w1 ⟨rfl,rfl⟩)
  go_ret2
  exact⟨rfl,Ad _ _⟩
 ·have h':0<f.cur:=by omega
  have e1:stN f=f.cur - 1:=by unfold stN;rw[if_neg h]
  have e2:D7 M f=inB (f.cur - 1) 0 ((M.slots.length:Int) - 1):=by
   rw[Bool.eq_iff_iff,Bv,Ai]
   omega
  rw[e1,e2]
  have HS:Hid (∀ W:World,Calls Tryz.prog 111 #[.agg #[Y aS M.slots.length cS,Y aH M.heads.length cH,Y aF M.free.length cF,Y aL M.locks.length cL,O J M.now],O J (f.cur - 1)] W fun e w'=>e=.returned (.bool (inB (f.cur - 1) 0 ((M.slots.length:Int) - 1)))/\Below W.heap.size W w'):=fun W=>Fz aS aH aF aL _ _ _ _ cS cH cF cL M.now (f.cur - 1) W (by omega)
  generalize inB (f.cur - 1) 0 ((M.slots.length:Int) - 1)=r at *
  clear e1 e2 hn
  go_enter Tryz.func200,Tryz.ntmps200
  go_wp2_with (first|(go_at_call 140;refine(Q5 _ _ h' hc).mono ?_;rintro e w1 ⟨rfl,rfl⟩)|(go_at_call 111;refine(HS.out _).mono ?_;rintro e w2 ⟨rfl,hb2⟩))
  go_ret2
  exact⟨rfl,(Ad _ _).trans (hb2.mono (by simp))⟩
end
section
open Go.ChangeShapes Go.WideShapes Go.ChangeAt Go.RowKit Go.Joins
variable {Xb:Ex}
def Ac:Obj:=.cells #[O J 0,O J 0,O J 0,O J 0,O J 0,O J 0,O J 0,O J 0,O J 0,O J 0,O J 0,Y none 0 0,.bool false,O J 0] 47
structure Lk(Xb:Ex)(w w1:World)(B lo:Nat)(aS aH aF aL:Option Addr)(cS cH cF cL:Nat)(M:Mm)(f:Fr)(aK:Option Addr)(cK:Nat):Prop where
 bl:Below w.heap.size w w1
 m:Mine Xb w1 B lo aS aH aF aL cS cH cF cL M
 lt:∀ k,A8 B aS aH aF aL k->k<w.heap.size
 fb:w1.heap[w.heap.size]?=some (.cells #[O J f.c.kind,O J f.c.a,O J f.c.b,O J f.c.time,O J f.c.bk,O J f.c.slot,O J f.pl,O J f.cur,O J f.prev,O J f.slot,O J f.n,Y aK f.keys.length cK,.bool f.done,O J f.e] 47 (0,0))
 zb:w1.heap[w.heap.size+1]?=some Ac
theorem b5h{w:World}{B lo:Nat}{aS aH aF aL:Option Addr}{cS cH cF cL:Nat}{M:Mm}(m:Mine Xb w B lo aS aH aF aL cS cH cF cL M):∀ k,A8 B aS aH aF aL k->k<w.heap.size:=by
 rintro k (rfl|⟨ad,rfl,rfl⟩|⟨ad,rfl,rfl⟩|⟨ad,rfl,rfl⟩|⟨ad,rfl,rfl⟩)
 ·exact lt_of_block m.box
 ·exact(m.c.s.lt _ rfl).2
 ·exact(m.c.h.lt _ rfl).2
 ·exact(m.c.f.lt _ rfl).2
 ·exact(m.c.l.lt _ rfl).2
section
variable {w w1 w2:World} {B lo:Nat} {aS aH aF aL:Option Addr} {cS cH cF cL:Nat} {M:Mm} {f:Fr} {aK:Option Addr} {cK:Nat}
theorem Lk.below(h:Lk Xb w w1 B lo aS aH aF aL cS cH cF cL M f aK cK)(hb:Below w1.heap.size w1 w2):Lk Xb w w2 B lo aS aH aF aL cS cH cF cL M f aK cK :=
 ⟨h.bl.trans (hb.mono h.bl.size),h.m.below hb,h.lt,(hb.block _ (lt_of_block h.fb)).trans h.fb,(hb.block _ (lt_of_block h.zb)).trans h.zb⟩
theorem Lk.first(m:Mine Xb w B lo aS aH aF aL cS cH cF cL M)(f:Fr)(aK:Option Addr)(cK:Nat){o oz:Obj}(ho:o=.cells #[O J f.c.kind,O J f.c.a,O J f.c.b,O J f.c.time,O J f.c.bk,O J f.c.slot,O J f.pl,O J f.cur,O J f.prev,O J f.slot,O J f.n,Y aK f.keys.length cK,.bool f.done,O J f.e] 47)(hz:oz=Ac):Lk Xb w ((w.alloc o).alloc oz) B lo aS aH aF aL cS cH cF cL M f aK cK:=by
 subst ho hz
 have h2:=below_alloc2 w (.cells #[O J f.c.kind,O J f.c.a,O J f.c.b,O J f.c.time,O J f.c.bk,O J f.c.slot,O J f.pl,O J f.cur,O J f.prev,O J f.slot,O J f.n,Y aK f.keys.length cK,.bool f.done,O J f.e] 47) Ac
 refine⟨h2,m.below h2,b5h m,?_,?_⟩
 ·rw[Below.heap_alloc _ _ _ (by simp)];exact heap_alloc_new w _
 ·have:=heap_alloc_new (w.alloc (.cells #[O J f.c.kind,O J f.c.a,O J f.c.b,O J f.c.time,O J f.c.bk,O J f.c.slot,O J f.pl,O J f.cur,O J f.prev,O J f.slot,O J f.n,Y aK f.keys.length cK,.bool f.done,O J f.e] 47)) Ac
  simpa using this
theorem Lk.store(h:Lk Xb w w1 B lo aS aH aF aL cS cH cF cL M f aK cK)(j:Nat)(v:Value)(g:Fr)(hg:(#[O J f.c.kind,O J f.c.a,O J f.c.b,O J f.c.time,O J f.c.bk,O J f.c.slot,O J f.pl,O J f.cur,O J f.prev,O J f.slot,O J f.n,Y aK f.keys.length cK,.bool f.done,O J f.e]:Array Value).setIfInBounds j v=#[O J g.c.kind,O J g.c.a,O J g.c.b,O J g.c.time,O J g.c.bk,O J g.c.slot,O J g.pl,O J g.cur,O J g.prev,O J g.slot,O J g.n,Y aK g.keys.length cK,.bool g.done,O J g.e]) :
  Lk Xb w (w1.setCell ⟨w.heap.size,j,none⟩ v) B lo aS aH aF aL cS cH cF cL M g aK cK:=by
 refine⟨h.bl.setCell (by simp) _,h.m.same (by simp) (fun k _ hk=>?_),h.lt,?_,by rw[Below.heap_setCell _ _ _ _ (by dsimp only;omega)];exact h.zb⟩
 ·have:=h.lt k hk
  rw[Below.heap_setCell _ _ _ _ (by dsimp only;omega)]
 ·rw[block_setCell h.fb v,hg]
end
theorem Gj{w w1:World}{n:Nat}{v0 v1 v2 v3 v4 v5 v6 v7 v8 v9 v10 v11 v12 v13:Value}(h:Below n w w1):Below n w ((((((((((((((w1.setCell ⟨n+1,0,none⟩ v0).setCell ⟨n+1,1,none⟩ v1).setCell ⟨n+1,2,none⟩ v2).setCell ⟨n+1,3,none⟩ v3).setCell ⟨n+1,4,none⟩ v4).setCell ⟨n+1,5,none⟩ v5).setCell ⟨n+1,6,none⟩ v6).setCell ⟨n+1,7,none⟩ v7).setCell ⟨n+1,8,none⟩ v8).setCell ⟨n+1,9,none⟩ v9).setCell ⟨n+1,10,none⟩ v10).setCell ⟨n+1,11,none⟩ v11).setCell ⟨n+1,12,none⟩ v12).setCell ⟨n+1,13,none⟩ v13):=by
 iterate 14 (refine Below.setCell ?_ (by dsimp only;omega) _)
 exact h
set_option maxHeartbeats 1600000 in
theorem a5y(M:Mm)(f:Fr)(B lo:Nat)(aS aH aF aL:Option Addr)(cS cH cF cL:Nat)(aK:Option Addr)(cK:Nat)(w:World)
  (m:Mine Xb w B lo aS aH aF aL cS cH cF cL M) (hM:Ok M) (hf:Fit M f) :
  Calls Tryz.prog 164 #[.pointer (some ⟨B,0,none⟩),.agg #[O J f.c.kind,O J f.c.a,O J f.c.b,O J f.c.time,O J f.c.bk,O J f.c.slot,O J f.pl,O J f.cur,O J f.prev,O J f.slot,O J f.n,Y aK f.keys.length cK,.bool f.done,O J f.e]] w fun e w'=>e=.returned (.agg #[O J (E8 M f).c.kind,O J (E8 M f).c.a,O J (E8 M f).c.b,O J (E8 M f).c.time,O J (E8 M f).c.bk,O J (E8 M f).c.slot,O J (E8 M f).pl,O J (E8 M f).cur,O J (E8 M f).prev,O J (E8 M f).slot,O J (E8 M f).n,Y aK (E8 M f).keys.length cK,.bool (E8 M f).done,O J (E8 M f).e])/\Below w.heap.size w w':=by
 obtain⟨b0,b1⟩:=Ej hM hf.call
 obtain⟨b,hb⟩:∃ b:Nat,G7 M.heads.length f.c=b:=⟨_,(Int.toNat_of_nonneg b0).symm⟩
 have hbl:b<M.heads.length:=by omega
 have hnh:=hM.nh.2
 obtain⟨gH,rfl,oH,lH,-,-⟩:=Dc m.c.h (by omega)
 obtain⟨x,hx⟩:∃ x,x=M.heads[b]:=⟨_,rfl⟩
 have hhd:Ar M (G7 M.heads.length f.c).toNat=x:=by rw[hb,hx];simp[Ar,List.getD_eq_getElem?_getD,hbl]
 have hres:E8 M f=Bl f x 1:=by unfold E8;rw[hhd]
 rw[hres]
 have HX:Hid (∀ W,Mine Xb W B lo aS (some ⟨gH,0,none⟩) aF aL cS cH cF cL M->W.cell? ⟨gH,b,none⟩=some (O J x)):=fun W m'=>by rw[hx];exact(Jk m'.c.h hbl).1
 have HBk:Hid (∀ W:World,Calls Tryz.prog 34 #[.agg #[Y aS M.slots.length cS,Y (some ⟨gH,0,none⟩) M.heads.length cH,Y aF M.free.length cF,Y aL M.locks.length cL,O J M.now],.agg #[O J f.c.kind,O J f.c.a,O J f.c.b,O J f.c.time,O J f.c.bk,O J f.c.slot]] W fun e w'=>e=.returned (O J (b:Int))/\Below W.heap.size W w'):=fun W=>hb ▸ Dk aS _ aF aL _ _ _ _ cS cH cF cL M.now f.c W (by omega)
 have HCh:Hid (∀ W:World,Calls Tryz.prog 97 #[.agg #[Y aS M.slots.length cS,Y (some ⟨gH,0,none⟩) M.heads.length cH,Y aF M.free.length cF,Y aL M.locks.length cL,O J M.now],O J (b:Int)] W fun e w'=>e=.returned (.bool true)/\Below W.heap.size W w'):=fun W=>(show inB (b:Int) 0 ((M.heads.length:Int) - 1)=true from (Ai _ _ _).2 (by omega)) ▸ Hq aS _ aF aL _ _ _ _ cS cH cF cL M.now (b:Int) W (by omega)
 obtain⟨of,hof⟩:=frObj f aK cK
 obtain⟨oz,hoz⟩:∃ o:Obj,o=Ac:=⟨_,rfl⟩
 have HE:Hid (Lk Xb w ((w.alloc of).alloc oz) B lo aS (some ⟨gH,0,none⟩) aF aL cS cH cF cL M f aK cK):=Lk.first m f aK cK hof hoz
 obtain⟨q0,q1,q2,q3,q4,-,-,-,-,-,qs⟩:=Aj HE.out.m.box
 obtain⟨f0,f1,f2,f3,f4,f5,f6,f7,f8,f9,f10,f11,f12,f13,ff,fs⟩:=Aa HE.out.fb
 unfold Ac at hoz
 clear hx hhd hres hb b0 b1 hM hf m oH lH
 go_enter Tryz.func164,Tryz.ntmps164
 go_wp2_with fail
 rw[<- hof,<- hoz]
 generalize (w.alloc of).alloc oz=W0 at *
 subst hof hoz
 go_region_with (go_at_call 34;refine(HBk.out _).mono ?_;rintro e w1 ⟨rfl,hb1⟩;have HB1:Hid (Below W0.heap.size W0 w1):=⟨hb1.os,hb1.tape,hb1.output,hb1.size,hb1.block⟩;clear hb1)
 all_goals
  have HE1:Hid (Lk Xb w w1 B lo aS (some ⟨gH,0,none⟩) aF aL cS cH cF cL M f aK cK):=HE.out.below HB1.out
  clear HB1 HE q0 q1 q2 q3 q4 qs f0 f1 f2 f3 f4 f5 f6 f7 f8 f9 f10 f11 f12 f13 ff fs
  obtain⟨q0,q1,q2,q3,q4,-,-,-,-,-,qs⟩:=Aj HE1.out.m.box
  go_wp2_with fail
  refine(HCh.out w1).mono ?_
  rintro e w2 ⟨rfl,hb2⟩
  have HE2:Hid (Lk Xb w w2 B lo aS (some ⟨gH,0,none⟩) aF aL cS cH cF cL M f aK cK):=HE1.out.below hb2
  clear HE1 hb2 q0 q1 q2 q3 q4 qs
  obtain⟨q0,q1,q2,q3,q4,-,-,-,-,-,qs⟩:=Aj HE2.out.m.box
  obtain⟨f0,f1,f2,f3,f4,f5,f6,f7,f8,f9,f10,f11,f12,f13,ff,fs⟩:=Aa HE2.out.fb
  have hc:=HX.out w2 HE2.out.m
  go_wp2_with fail
  have HE3:Hid (Lk Xb w _ B lo aS (some ⟨gH,0,none⟩) aF aL cS cH cF cL M { f with cur:=x } aK cK):=HE2.out.store 7 (O J x) { f with cur:=x } rfl
  clear q0 q1 q2 q3 q4 qs f0 f1 f2 f3 f4 f5 f6 f7 f8 f9 f10 f11 f12 f13 ff fs hc HE2
  refine(Cc { f with cur:=x } 1 aK cK _).mono ?_
  rintro e w3 ⟨rfl,hb3⟩
  have HE4:Hid _:=HE3.out.below hb3
  clear HE3 hb3
  obtain⟨g0,g1,g2,g3,g4,g5,g6,g7,g8,g9,g10,g11,g12,g13,gf,gs⟩:=Aa HE4.out.zb
  go_wp2
  refine bodyPost_ret (v:=.agg #[O J (Bl f x 1).c.kind,O J (Bl f x 1).c.a,O J (Bl f x 1).c.b,O J (Bl f x 1).c.time,O J (Bl f x 1).c.bk,O J (Bl f x 1).c.slot,O J (Bl f x 1).pl,O J (Bl f x 1).cur,O J (Bl f x 1).prev,O J (Bl f x 1).slot,O J (Bl f x 1).n,Y aK (Bl f x 1).keys.length cK,.bool (Bl f x 1).done,O J (Bl f x 1).e]) (by simp[results,Tryz.results164,go_sem,Bl,toF,g0,g1,g2,g3,g4,g5,g6,g7,g8,g9,g10,g11,g12,g13]) rfl ⟨rfl,?_⟩
  refine Gj ?_
  exact HE4.out.bl
end
section
open Go.ChangeShapes Go.WideShapes Go.ChangeAt Go.RowKit Go.Joins
variable {Xb:Ex}
theorem Bd{w:World}{lo gS n cap:Nat}{M:Mm}(h:w.ownsRow lo 64 6 (Y (some ⟨gS,0,none⟩) n cap) n (encS M.slots)){j:Nat}(hj:j<M.slots.length){s:Sl}(hs:s=A7 M j) :
  w.cell? ⟨gS,j*6,none⟩=some (O J s.refs)/\w.cell? ⟨gS,j*6+1,none⟩=some (O J s.a)/\w.cell? ⟨gS,j*6+2,none⟩=some (O J s.b) /\
  w.cell? ⟨gS,j*6+3,none⟩=some (O J s.unt)/\w.cell? ⟨gS,j*6+4,none⟩=some (.bool s.inn)/\w.cell? ⟨gS,j*6+5,none⟩=some (O J s.next)/\∀ q,w.frozen? ⟨gS,q,none⟩=false:=by
 have e:s=M.slots[j]:=by rw[hs];simp[A7,List.getD_eq_getElem?_getD,hj]
 rw[e]
 exact H6 h hj
set_option maxHeartbeats 1600000 in
theorem b1v(M:Mm)(f:Fr)(B lo:Nat)(aS aH aF aL:Option Addr)(cS cH cF cL:Nat)(aK:Option Addr)(cK:Nat)(w:World)
  (m:Mine Xb w B lo aS aH aF aL cS cH cF cL M) (hM:Ok M) (hf:Fit M f) :
  Calls Tryz.prog 166 #[.pointer (some ⟨B,0,none⟩),.agg #[O J f.c.kind,O J f.c.a,O J f.c.b,O J f.c.time,O J f.c.bk,O J f.c.slot,O J f.pl,O J f.cur,O J f.prev,O J f.slot,O J f.n,Y aK f.keys.length cK,.bool f.done,O J f.e]] w fun e w'=>e=.returned (.agg #[O J (Fa M f).c.kind,O J (Fa M f).c.a,O J (Fa M f).c.b,O J (Fa M f).c.time,O J (Fa M f).c.bk,O J (Fa M f).c.slot,O J (Fa M f).pl,O J (Fa M f).cur,O J (Fa M f).prev,O J (Fa M f).slot,O J (Fa M f).n,Y aK (Fa M f).keys.length cK,.bool (Fa M f).done,O J (Fa M f).e])/\Below w.heap.size w w':=by
 have hns:=hM.ns
 have hcur:=hf.cur.2
 have hc1:f.cur<=1000:=by omega
 have hn1:M.slots.length<=1000:=by omega
 by_cases hat:D7 M f=true
 ·have h1:=Bv.1 hat
  obtain⟨j,hj⟩:∃ j:Nat,f.cur - 1=j:=⟨(f.cur - 1).toNat,by omega⟩
  have hjl:j<M.slots.length:=by omega
  obtain⟨gS,rfl,oS,lS,kS,-⟩:=Dc m.c.s (by omega)
  obtain⟨s,hs⟩:∃ s,s=A7 M (j:Int):=⟨_,rfl⟩
  have hst:stN f=j:=by unfold stN;rw[if_neg (by omega)];exact hj
  have hres:Fa M f=Bl f s.next 1:=by unfold Fa;rw[if_pos hat,hj,<- hs]
  rw[hres]
  have HSt:Hid (∀ (W:World),Mine Xb W B lo (some ⟨gS,0,none⟩) aH aF aL cS cH cF cL M->Calls Tryz.prog 200 #[.pointer (some ⟨B,0,none⟩),.agg #[O J f.c.kind,O J f.c.a,O J f.c.b,O J f.c.time,O J f.c.bk,O J f.c.slot,O J f.pl,O J f.cur,O J f.prev,O J f.slot,O J f.n,Y aK f.keys.length cK,.bool f.done,O J f.e]] W fun e w'=>e=.returned (.tuple #[O J (j:Int),.bool true])/\Below W.heap.size W w'):=fun W m'=>by
   have:=Bo M f B _ aH aF aL cS cH cF cL aK cK W m'.box hc1 hn1
   rwa [hst,hat] at this
  have HX:Hid (∀ W,Mine Xb W B lo (some ⟨gS,0,none⟩) aH aF aL cS cH cF cL M->W.cell? ⟨gS,j*6+5,none⟩=some (O J s.next)):=fun W m'=>(Bd m'.c.s hjl hs).2.2.2.2.2.1
  obtain⟨of,hof⟩:=frObj f aK cK
  obtain⟨oz,hoz⟩:∃ o:Obj,o=Ac:=⟨_,rfl⟩
  have HE:Hid (Lk Xb w ((w.alloc of).alloc oz) B lo (some ⟨gS,0,none⟩) aH aF aL cS cH cF cL M f aK cK):=Lk.first m f aK cK hof hoz
  obtain⟨q0,q1,q2,q3,q4,-,-,-,-,-,qs⟩:=Aj HE.out.m.box
  obtain⟨f0,f1,f2,f3,f4,f5,f6,f7,f8,f9,f10,f11,f12,f13,ff,fs⟩:=Aa HE.out.fb
  unfold Ac at hoz
  clear m hres hs hst hat h1 hc1 hn1 hcur hns hM hf
  go_enter Tryz.func166,Tryz.ntmps166
  go_wp2_with fail
  rw[<- hof,<- hoz]
  generalize (w.alloc of).alloc oz=W0 at *
  subst hof hoz
  refine(HSt.out W0 HE.out.m).mono ?_
  rintro e w1 ⟨rfl,hb1⟩
  have HE1:Hid (Lk Xb w w1 B lo (some ⟨gS,0,none⟩) aH aF aL cS cH cF cL M f aK cK):=HE.out.below hb1
  clear HE hb1
  clear q0 q1 q2 q3 q4 qs f0 f1 f2 f3 f4 f5 f6 f7 f8 f9 f10 f11 f12 f13 ff fs
  obtain⟨q0,q1,q2,q3,q4,-,-,-,-,-,qs⟩:=Aj HE1.out.m.box
  obtain⟨f0,f1,f2,f3,f4,f5,f6,f7,f8,f9,f10,f11,f12,f13,ff,fs⟩:=Aa HE1.out.fb
  have hx:=HX.out w1 HE1.out.m
  go_wp2_with fail
  have HE2:Hid (Lk Xb w _ B lo (some ⟨gS,0,none⟩) aH aF aL cS cH cF cL M { f with cur:=s.next } aK cK):=HE1.out.store 7 (O J s.next) { f with cur:=s.next } rfl
  clear HE1 hx
  refine(Cc { f with cur:=s.next } 1 aK cK _).mono ?_
  rintro e w9 ⟨rfl,hb9⟩
  have HE9:Hid (Lk Xb w w9 B lo (some ⟨gS,0,none⟩) aH aF aL cS cH cF cL M { f with cur:=s.next } aK cK):=HE2.out.below hb9
  clear HE2 hb9
  clear q0 q1 q2 q3 q4 qs f0 f1 f2 f3 f4 f5 f6 f7 f8 f9 f10 f11 f12 f13 ff fs
  obtain⟨g0,g1,g2,g3,g4,g5,g6,g7,g8,g9,g10,g11,g12,g13,gf,gs⟩:=Aa HE9.out.zb
  go_wp2
  refine bodyPost_ret (v:=.agg #[O J (Bl f s.next 1).c.kind,O J (Bl f s.next 1).c.a,O J (Bl f s.next 1).c.b,O J (Bl f s.next 1).c.time,O J (Bl f s.next 1).c.bk,O J (Bl f s.next 1).c.slot,O J (Bl f s.next 1).pl,O J (Bl f s.next 1).cur,O J (Bl f s.next 1).prev,O J (Bl f s.next 1).slot,O J (Bl f s.next 1).n,Y aK (Bl f s.next 1).keys.length cK,.bool (Bl f s.next 1).done,O J (Bl f s.next 1).e]) (by simp[results,Tryz.results166,go_sem,Bl,toF,g0,g1,g2,g3,g4,g5,g6,g7,g8,g9,g10,g11,g12,g13]) rfl ⟨rfl,?_⟩
  refine Gj ?_
  exact HE9.out.bl
 ·have hat0:D7 M f=false:=by simpa using hat
  have hres:Fa M f=toF f 0:=by unfold Fa;rw[if_neg hat]
  rw[hres]
  have HSt:Hid (∀ (W:World),Mine Xb W B lo aS aH aF aL cS cH cF cL M->Calls Tryz.prog 200 #[.pointer (some ⟨B,0,none⟩),.agg #[O J f.c.kind,O J f.c.a,O J f.c.b,O J f.c.time,O J f.c.bk,O J f.c.slot,O J f.pl,O J f.cur,O J f.prev,O J f.slot,O J f.n,Y aK f.keys.length cK,.bool f.done,O J f.e]] W fun e w'=>e=.returned (.tuple #[O J (stN f),.bool false])/\Below W.heap.size W w'):=fun W m'=>by
   have:=Bo M f B _ aH aF aL cS cH cF cL aK cK W m'.box hc1 hn1
   rwa [hat0] at this
  obtain⟨of,hof⟩:=frObj f aK cK
  obtain⟨oz,hoz⟩:∃ o:Obj,o=Ac:=⟨_,rfl⟩
  have HE:Hid (Lk Xb w ((w.alloc of).alloc oz) B lo aS aH aF aL cS cH cF cL M f aK cK):=Lk.first m f aK cK hof hoz
  obtain⟨q0,q1,q2,q3,q4,-,-,-,-,-,qs⟩:=Aj HE.out.m.box
  obtain⟨f0,f1,f2,f3,f4,f5,f6,f7,f8,f9,f10,f11,f12,f13,ff,fs⟩:=Aa HE.out.fb
  unfold Ac at hoz
  clear m hres hat hat0 hc1 hn1 hcur hns hM hf
  go_enter Tryz.func166,Tryz.ntmps166
  go_wp2_with fail
  rw[<- hof,<- hoz]
  generalize (w.alloc of).alloc oz=W0 at *
  subst hof hoz
  refine(HSt.out W0 HE.out.m).mono ?_
  rintro e w1 ⟨rfl,hb1⟩
  have HE1:Hid (Lk Xb w w1 B lo aS aH aF aL cS cH cF cL M f aK cK):=HE.out.below hb1
  clear HE hb1
  clear q0 q1 q2 q3 q4 qs f0 f1 f2 f3 f4 f5 f6 f7 f8 f9 f10 f11 f12 f13 ff fs
  obtain⟨q0,q1,q2,q3,q4,-,-,-,-,-,qs⟩:=Aj HE1.out.m.box
  obtain⟨f0,f1,f2,f3,f4,f5,f6,f7,f8,f9,f10,f11,f12,f13,ff,fs⟩:=Aa HE1.out.fb
  go_wp2_with fail
  refine(Cc f 0 aK cK _).mono ?_
  rintro e w9 ⟨rfl,hb9⟩
  have HE9:Hid (Lk Xb w w9 B lo aS aH aF aL cS cH cF cL M f aK cK):=HE1.out.below hb9
  clear HE1 hb9
  clear q0 q1 q2 q3 q4 qs f0 f1 f2 f3 f4 f5 f6 f7 f8 f9 f10 f11 f12 f13 ff fs
  obtain⟨g0,g1,g2,g3,g4,g5,g6,g7,g8,g9,g10,g11,g12,g13,gf,gs⟩:=Aa HE9.out.zb
  go_wp2
  refine bodyPost_ret (v:=.agg #[O J (toF f 0).c.kind,O J (toF f 0).c.a,O J (toF f 0).c.b,O J (toF f 0).c.time,O J (toF f 0).c.bk,O J (toF f 0).c.slot,O J (toF f 0).pl,O J (toF f 0).cur,O J (toF f 0).prev,O J (toF f 0).slot,O J (toF f 0).n,Y aK (toF f 0).keys.length cK,.bool (toF f 0).done,O J (toF f 0).e]) (by simp[results,Tryz.results166,go_sem,toF,g0,g1,g2,g3,g4,g5,g6,g7,g8,g9,g10,g11,g12,g13]) rfl ⟨rfl,?_⟩
  refine Gj ?_
  exact HE9.out.bl
end
end Go.Proofs.YthhgoenomehobaaGreat.mm
