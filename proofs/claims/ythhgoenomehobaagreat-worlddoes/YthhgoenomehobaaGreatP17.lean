/- Parts. -/
import Derived.Test.YthhgoenomehobaaGreatP14
import Derived.Test.YthhgoenomehobaaGreatP08
import Derived.Deep.QuietTactic
import Derived.BigQuiet
import Derived.BigRegion
import Derived.Lib.QuietBelow
import Derived.Test.YthhgoenomehobaaGreatP10
import Derived.Test.YthhgoenomehobaaGreatP09
namespace Go.Proofs.YthhgoenomehobaaGreat.mm
set_option maxRecDepth 100000
set_option linter.unusedVariables false
open Go.Value renaming int → O, slice → Y
open Go.IntKind renaming i64 → J
open Go.Proofs.Tryz renaming prog → Pg
open Go renaming World → Wq
open Go.ChangeShapes Go.WideShapes Go.ChangeAt Go.RowKit Go.Joins
set_option maxHeartbeats 3200000
section
open Go.Deep Go.Sort
theorem Qd(f:Fr)(aK:Option Addr)(cK:Nat)(w:Wq) :
  Calls Pg 196 #[.agg #[O J f.c.kind,O J f.c.a,O J f.c.b,O J f.c.time,O J f.c.bk,O J f.c.slot,O J f.pl,O J f.cur,O J f.prev,O J f.slot,O J f.n,Y aK f.keys.length cK,.bool f.done,O J f.e]] w fun e w'=>e=.returned (.agg #[O J (toF f 6).c.kind,O J (toF f 6).c.a,O J (toF f 6).c.b,O J (toF f 6).c.time,O J (toF f 6).c.bk,O J (toF f 6).c.slot,O J (toF f 6).pl,O J (toF f 6).cur,O J (toF f 6).prev,O J (toF f 6).slot,O J (toF f 6).n,Y aK (toF f 6).keys.length cK,.bool (toF f 6).done,O J (toF f 6).e])/\Below w.heap.size w w':=by
 go_enter Tryz.func196,Tryz.ntmps196
 go_wp2_with fail
 refine(Gn f 6 aK cK _).mono ?_
 rintro e w9 ⟨rfl,hb9⟩
 have HE9:Hid (Below w.heap.size w w9/\w9.heap[w.heap.size+1]?=some Ae):=Yj hb9
 clear hb9
 obtain⟨g0,g1,g2,g3,g4,g5,g6,g7,g8,g9,g10,g11,g12,g13,gf,gs⟩:=A8 HE9.out.2
 go_wp2
 refine bodyPost_ret (v:=.agg #[O J (toF f 6).c.kind,O J (toF f 6).c.a,O J (toF f 6).c.b,O J (toF f 6).c.time,O J (toF f 6).c.bk,O J (toF f 6).c.slot,O J (toF f 6).pl,O J (toF f 6).cur,O J (toF f 6).prev,O J (toF f 6).slot,O J (toF f 6).n,Y aK (toF f 6).keys.length cK,.bool (toF f 6).done,O J (toF f 6).e]) (by simp[results,Tryz.results196,go_sem,toF,g0,g1,g2,g3,g4,g5,g6,g7,g8,g9,g10,g11,g12,g13]) rfl ⟨rfl,Zt HE9.out.1⟩
end
section
open Go.Deep Go.Sort
theorem Pj(f:Fr)(aK:Option Addr)(cK:Nat)(w:Wq) :
  Calls Pg 188 #[.agg #[O J f.c.kind,O J f.c.a,O J f.c.b,O J f.c.time,O J f.c.bk,O J f.c.slot,O J f.pl,O J f.cur,O J f.prev,O J f.slot,O J f.n,Y aK f.keys.length cK,.bool f.done,O J f.e]] w fun e w'=>e=.returned (.agg #[O J (Du f 8 5).c.kind,O J (Du f 8 5).c.a,O J (Du f 8 5).c.b,O J (Du f 8 5).c.time,O J (Du f 8 5).c.bk,O J (Du f 8 5).c.slot,O J (Du f 8 5).pl,O J (Du f 8 5).cur,O J (Du f 8 5).prev,O J (Du f 8 5).slot,O J (Du f 8 5).n,Y aK (Du f 8 5).keys.length cK,.bool (Du f 8 5).done,O J (Du f 8 5).e])/\Below w.heap.size w w':=by
 go_enter Tryz.func188,Tryz.ntmps188
 go_wp2_with fail
 refine(Gn { f with e:=8 } 5 aK cK _).mono ?_
 rintro e w9 ⟨rfl,hb9⟩
 have HE9:Hid (Below w.heap.size w w9/\w9.heap[w.heap.size+1]?=some Ae):=Yj hb9
 clear hb9
 obtain⟨g0,g1,g2,g3,g4,g5,g6,g7,g8,g9,g10,g11,g12,g13,gf,gs⟩:=A8 HE9.out.2
 go_wp2
 refine bodyPost_ret (v:=.agg #[O J (Du f 8 5).c.kind,O J (Du f 8 5).c.a,O J (Du f 8 5).c.b,O J (Du f 8 5).c.time,O J (Du f 8 5).c.bk,O J (Du f 8 5).c.slot,O J (Du f 8 5).pl,O J (Du f 8 5).cur,O J (Du f 8 5).prev,O J (Du f 8 5).slot,O J (Du f 8 5).n,Y aK (Du f 8 5).keys.length cK,.bool (Du f 8 5).done,O J (Du f 8 5).e]) (by simp[results,Tryz.results188,go_sem,Du,toF,g0,g1,g2,g3,g4,g5,g6,g7,g8,g9,g10,g11,g12,g13]) rfl ⟨rfl,Zt HE9.out.1⟩
end
section
open Go.Maps
variable {Xb:Ex}
theorem a4e(w:Wq)(B gS gH nS nH j b cS cH:Nat)(fv lv nv:Value)(x nx ah:Int)
  (hB:w.heap[B]?=some (.cells (List.toArray (Y (some ⟨gS,0,none⟩) nS cS :: Y (some ⟨gH,0,none⟩) nH cH :: fv :: lv :: nv :: Xb.rs)) Xb.rt (0,0))) (hj:j<nS) (hb:b<nH) (hn:nS<=12) (hh:nH<=4) (ha:ah<=0)
  (c5:w.cell? ⟨gS,j*6+5,none⟩=some (O J nx)) (ch:w.cell? ⟨gH,b,none⟩=some (O J x)) (fh:w.frozen? ⟨gH,b,none⟩=false) :
  Calls Pg 216 #[.pointer (some ⟨B,0,none⟩),O J b,O J ah,O J j] w fun e w'=>e=.returned (.tuple #[])/\w'=w.setCell ⟨gH,b,none⟩ (O J nx):=by
 obtain⟨q0,q1,q2,q3,q4,-,-,-,-,-,qs⟩:=Af hB
 clear hB
 go_enter Tryz.func216,Tryz.ntmps216
 go_wp2_with (go_at_call 140;refine(Ot _ _ ha).mono ?_;rintro e w1 ⟨rfl,rfl⟩)
 go_end0
 exact⟨rfl,rfl⟩
theorem b0q(w:Wq)(B gS gH nS nH j b p cS cH:Nat)(fv lv nv:Value)(x nx px:Int)
  (hB:w.heap[B]?=some (.cells (List.toArray (Y (some ⟨gS,0,none⟩) nS cS :: Y (some ⟨gH,0,none⟩) nH cH :: fv :: lv :: nv :: Xb.rs)) Xb.rt (0,0))) (hj:j<nS) (hb:b<nH) (hn:nS<=12) (hh:nH<=4) (hp:p<nS)
  (c5:w.cell? ⟨gS,j*6+5,none⟩=some (O J nx)) (d5:w.cell? ⟨gS,p*6+5,none⟩=some (O J px)) (fz:w.frozen? ⟨gS,p*6+5,none⟩=false) (ch:w.cell? ⟨gH,b,none⟩=some (O J x)) :
  Calls Pg 216 #[.pointer (some ⟨B,0,none⟩),O J b,O J ((p:Int)+1),O J j] w fun e w'=>e=.returned (.tuple #[])/\w'=w.setCell ⟨gS,p*6+5,none⟩ (O J nx):=by
 obtain⟨q0,q1,q2,q3,q4,-,-,-,-,-,qs⟩:=Af hB
 clear hB
 go_enter Tryz.func216,Tryz.ntmps216
 go_wp2_with (go_at_call 140;refine(Oq _ _ (by omega) (by omega)).mono ?_;rw[show (p:Int)+1 - 1=p by omega];rintro e w1 ⟨rfl,rfl⟩)
 go_end0
 exact⟨rfl,rfl⟩
end
section
variable {Xb:Ex}
theorem a7d{M:Mm}{w:Wq}{B lo:Nat}{Z:Nat->Prop}{j b:Nat}{ah:Int}(H:Has Xb w B lo Z M)(hM:Ok M)(hj:j<M.slots.length)(hb:b<M.heads.length)(hah:ah<=M.slots.length) :
  Calls Pg 216 #[.pointer (some ⟨B,0,none⟩),O J b,O J ah,O J j] w fun e w'=>e=.returned (.tuple #[])/\Has Xb w' B lo (Up w Z) (I7 M b ah j)/\Fine w w' Z:=by
 obtain⟨aS,aH,aF,aL,cS,cH,cF,cL,m,hf⟩:=H
 obtain⟨gS,rfl,oS,lS,-,-⟩:=Bh m.c.s (by omega)
 obtain⟨gH,rfl,oH,lH,-,-⟩:=Bh m.c.h (by omega)
 obtain⟨c0,c1,c2,c3,c4,c5,fz⟩:=Df m.c.s hj
 obtain⟨ch,fh⟩:=Fe m.c.h hb
 have zS:Z gS\/w.heap.size<=gS:=.inl (hf gS (.inr (.inl ⟨_,rfl,rfl⟩)))
 have zH:Z gH\/w.heap.size<=gH:=.inl (hf gH (.inr (.inr (.inl ⟨_,rfl,rfl⟩))))
 have hs:Aa M j=M.slots[j]:=Gj hj
 by_cases ha:0<ah
 ·obtain⟨p,rfl⟩:∃ p:Nat,ah=(p:Int)+1:=⟨(ah - 1).toNat,by omega⟩
  have hp:p<M.slots.length:=by omega
  obtain⟨_,_,_,_,_,d5,_⟩:=Df m.c.s hp
  refine(b0q w B gS gH _ _ j b p cS cH _ _ _ _ _ _ m.box hj hb hM.ns hM.nh.2 hp c5 d5 (fz _) ch).mono ?_
  rintro e w' ⟨rfl,rfl⟩
  unfold I7
  rw[if_pos ha,hs,show (p:Int)+1 - 1=p by omega,show Aa M p=M.slots[p] from Gj hp,Int.toNat_natCast]
  exact⟨rfl,⟨_,_,_,_,_,_,_,_,m.Rl _ _ _ (Ry M.slots p hp _),fun k hk=>.inl (hf k hk)⟩,(Fine.refl w Z).set zS _ _⟩
 ·refine(a4e w B gS gH _ _ j b cS cH _ _ _ _ _ _ m.box hj hb hM.ns hM.nh.2 (by omega) c5 ch fh).mono ?_
  rintro e w' ⟨rfl,rfl⟩
  unfold I7
  rw[if_neg ha,hs]
  exact⟨rfl,⟨_,_,_,_,_,_,_,_,m.setH b _,fun k hk=>.inl (hf k hk)⟩,(Fine.refl w Z).set zH _ _⟩
end
section
open Go.Deep Go.Sort
variable {Xb:Ex}
theorem a3t(M:Mm)(B:Nat)(aS aH aF aL:Option Addr)(cS cH cF cL:Nat)(p:Int)(w:Wq)(hB:w.heap[B]?=some (.cells (List.toArray (Y aS M.slots.length cS :: Y aH M.heads.length cH :: Y aF M.free.length cF :: Y aL M.locks.length cL :: O J M.now :: Xb.rs)) Xb.rt (0,0)))(h0:0<=p)(h1:p<=M.slots.length)(hn:M.slots.length<=1000) :
  Calls Pg 215 #[.pointer (some ⟨B,0,none⟩),O J p] w fun e w'=>e=.returned (.bool true)/\Below w.heap.size w w':=by
 obtain⟨q0,q1,q2,q3,q4,-,-,-,-,-,qs⟩:=Af hB
 clear hB
 by_cases h:p<=0
 ·obtain rfl:p=0:=by omega
  go_enter Tryz.func215,Tryz.ntmps215
  go_wp2_with (go_at_call 140;refine(Ot _ _ h).mono ?_;rintro e w1 ⟨rfl,rfl⟩)
  go_ret
  exact⟨rfl,Below.refl _ _⟩
 ·have h':0<p:=by omega
  have hc:p<=1000:=by omega
  have e0:(p==0)=false:=by rw[beq_eq_false_iff_ne];omega
  have HS:Hid (∀ W:Wq,Calls Pg 111 #[.agg #[Y aS M.slots.length cS,Y aH M.heads.length cH,Y aF M.free.length cF,Y aL M.locks.length cL,O J M.now],O J (p - 1)] W fun e w'=>e=.returned (.bool true)/\Below W.heap.size W w'):=fun W=>(show inB (p - 1) 0 ((M.slots.length:Int) - 1)=true from (Aj _ _ _).2 (by omega)) ▸ Ed aS aH aF aL _ _ _ _ cS cH cF cL M.now (p - 1) W (by omega)
  clear hn h1 h0
  go_enter Tryz.func215,Tryz.ntmps215
  go_wp2_with (first|(go_at_call 140;refine(Oq _ _ h' hc).mono ?_;rintro e w1 ⟨rfl,rfl⟩)|(go_at_call 111;refine(HS.out _).mono ?_;rintro e w2 ⟨rfl,hb2⟩))
  go_ret
  exact⟨rfl,hb2⟩
structure Lf(Xb:Ex)(w w1:Wq)(B lo:Nat)(aS aH aF aL:Option Addr)(cS cH cF cL:Nat)(M:Mm)(f:Fr)(aK:Option Addr)(cK:Nat):Prop where
 bl:Below w.heap.size w w1
 m:Mine Xb w1 B lo aS aH aF aL cS cH cF cL M
 fb:w1.heap[w.heap.size]?=some (.cells #[O J f.c.kind,O J f.c.a,O J f.c.b,O J f.c.time,O J f.c.bk,O J f.c.slot,O J f.pl,O J f.cur,O J f.prev,O J f.slot,O J f.n,Y aK f.keys.length cK,.bool f.done,O J f.e] 47 (0,0))
theorem Lf.below{w w1 w2:Wq}{B lo:Nat}{aS aH aF aL:Option Addr}{cS cH cF cL:Nat}{M:Mm}{f:Fr}{aK:Option Addr}{cK:Nat}(h:Lf Xb w w1 B lo aS aH aF aL cS cH cF cL M f aK cK)(hb:Below w1.heap.size w1 w2):Lf Xb w w2 B lo aS aH aF aL cS cH cF cL M f aK cK :=
 ⟨h.bl.trans (hb.mono h.bl.size),h.m.below hb,(hb.block _ (lt_of_block h.fb)).trans h.fb⟩
theorem Lf.after{w w1 w2:Wq}{B lo:Nat}{aS aH aF aL:Option Addr}{cS cH cF cL:Nat}{M M':Mm}{f:Fr}{aK:Option Addr}{cK:Nat}(h:Lf Xb w w1 B lo aS aH aF aL cS cH cF cL M f aK cK)(hh:Has Xb w2 B lo (Up w1 (Ac B aS aH aF aL)) M')(hf:Fine w1 w2 (Ac B aS aH aF aL)):Has Xb w2 B lo (Up w (Ac B aS aH aF aL)) M'/\Fine w w2 (Ac B aS aH aF aL) :=
 ⟨hh.mono (fun k _ hk=>hk.imp id (fun h'=>Nat.le_trans h.bl.size h')),(Fine.of_below _ h.bl).trans hf (fun _ _ h=>h)⟩
theorem Lf.first{w:Wq}{B lo:Nat}{aS aH aF aL:Option Addr}{cS cH cF cL:Nat}{M:Mm}(m:Mine Xb w B lo aS aH aF aL cS cH cF cL M)(f:Fr)(aK:Option Addr)(cK:Nat){o:Obj}(ho:o=.cells #[O J f.c.kind,O J f.c.a,O J f.c.b,O J f.c.time,O J f.c.bk,O J f.c.slot,O J f.pl,O J f.cur,O J f.prev,O J f.slot,O J f.n,Y aK f.keys.length cK,.bool f.done,O J f.e] 47):Lf Xb w (w.alloc o) B lo aS aH aF aL cS cH cF cL M f aK cK:=by
 subst ho
 exact⟨A7 _ _,m.below (A7 _ _),heap_alloc_new _ _⟩
theorem Xd(M:Mm)(f:Fr)(b:Nat)(B lo:Nat)(aS aH aF aL:Option Addr)(cS cH cF cL:Nat)(aK:Option Addr)(cK:Nat)(w:Wq)
  (m:Mine Xb w B lo aS aH aF aL cS cH cF cL M) (hM:Ok M) (hf:Fit M f) (hbl:b<M.heads.length) (hat:Ej M f=false) :
  Calls Pg 210 #[.pointer (some ⟨B,0,none⟩),O J (b:Int),.agg #[O J f.c.kind,O J f.c.a,O J f.c.b,O J f.c.time,O J f.c.bk,O J f.c.slot,O J f.pl,O J f.cur,O J f.prev,O J f.slot,O J f.n,Y aK f.keys.length cK,.bool f.done,O J f.e]] w fun e w'=>e=.returned (.tuple #[O J 0,.bool false])/\Below w.heap.size w w':=by
 have hns:=hM.ns
 have hnh:=hM.nh.2
 have hcur:=hf.cur.2
 have hc1:f.cur<=1000:=by omega
 have hn1:M.slots.length<=1000:=by omega
 obtain⟨hp0,hp1⟩:=hf.prev
 have HSt:Hid (∀ (W:Wq),Lf Xb w W B lo aS aH aF aL cS cH cF cL M f aK cK->Calls Pg 200 #[.pointer (some ⟨B,0,none⟩),.agg #[O J f.c.kind,O J f.c.a,O J f.c.b,O J f.c.time,O J f.c.bk,O J f.c.slot,O J f.pl,O J f.cur,O J f.prev,O J f.slot,O J f.n,Y aK f.keys.length cK,.bool f.done,O J f.e]] W fun e w'=>e=.returned (.tuple #[O J (stN f),.bool false])/\Lf Xb w w' B lo aS aH aF aL cS cH cF cL M f aK cK):=fun W h=>by
  have:=Ea M f B _ _ _ _ cS cH cF cL aK cK W h.m.box hc1 hn1
  rw[hat] at this
  exact this.mono (fun e w' h'=>⟨h'.1,h.below h'.2⟩)
 obtain⟨of,hof⟩:=frObj f aK cK
 have HE:Hid (Lf Xb w (w.alloc of) B lo aS aH aF aL cS cH cF cL M f aK cK):=Lf.first m f aK cK hof
 obtain⟨f0,f1,f2,f3,f4,f5,f6,f7,f8,f9,f10,f11,f12,f13,ff,fs⟩:=A8 HE.out.fb
 clear m hM hf hns hnh hcur hc1 hn1 hp0 hp1 hat
 go_enter Tryz.func210,Tryz.ntmps210
 go_wp2_with fail
 rw[<- hof]
 generalize w.alloc of=W0 at *
 subst hof
 clear f0 f1 f2 f3 f4 f5 f6 f7 f8 f9 f10 f11 f12 f13 ff fs
 refine(HSt.out _ (by exact HE.out)).mono ?_
 rintro e w1 ⟨rfl,h9⟩
 have HE1:Hid (Lf Xb w w1 B lo aS aH aF aL cS cH cF cL M f aK cK):=h9
 clear HE h9
 obtain⟨q0,q1,q2,q3,q4,-,-,-,-,-,qs⟩:=Af HE1.out.m.box
 obtain⟨f0,f1,f2,f3,f4,f5,f6,f7,f8,f9,f10,f11,f12,f13,ff,fs⟩:=A8 HE1.out.fb
 go_wp2
 go_ret2
 exact⟨rfl,HE1.out.bl⟩
theorem Uu(M:Mm)(f:Fr)(b:Nat)(B lo:Nat)(aS aH aF aL:Option Addr)(cS cH cF cL:Nat)(aK:Option Addr)(cK:Nat)(w:Wq)
  (m:Mine Xb w B lo aS aH aF aL cS cH cF cL M) (hM:Ok M) (hf:Fit M f) (hbl:b<M.heads.length) (j:Nat) (hj:f.cur=(j:Int)+1) (hjl:j<M.slots.length) :
  Calls Pg 210 #[.pointer (some ⟨B,0,none⟩),O J (b:Int),.agg #[O J f.c.kind,O J f.c.a,O J f.c.b,O J f.c.time,O J f.c.bk,O J f.c.slot,O J f.pl,O J f.cur,O J f.prev,O J f.slot,O J f.n,Y aK f.keys.length cK,.bool f.done,O J f.e]] w fun e w'=>e=.returned (.tuple #[O J (j:Int),.bool true])/\Has Xb w' B lo (Up w (Ac B aS aH aF aL)) (I7 M b f.prev (j:Int))/\Fine w w' (Ac B aS aH aF aL):=by
 have hns:=hM.ns
 have hnh:=hM.nh.2
 have hcur:=hf.cur.2
 have hc1:f.cur<=1000:=by omega
 have hn1:M.slots.length<=1000:=by omega
 obtain⟨hp0,hp1⟩:=hf.prev
 have hat:Ej M f=true:=Es.2 (by omega)
 have hst:stN f=j:=by unfold stN;rw[if_neg (by omega)];omega
 have HSt:Hid (∀ (W:Wq),Lf Xb w W B lo aS aH aF aL cS cH cF cL M f aK cK->Calls Pg 200 #[.pointer (some ⟨B,0,none⟩),.agg #[O J f.c.kind,O J f.c.a,O J f.c.b,O J f.c.time,O J f.c.bk,O J f.c.slot,O J f.pl,O J f.cur,O J f.prev,O J f.slot,O J f.n,Y aK f.keys.length cK,.bool f.done,O J f.e]] W fun e w'=>e=.returned (.tuple #[O J ((j:Int)),.bool true])/\Lf Xb w w' B lo aS aH aF aL cS cH cF cL M f aK cK):=fun W h=>by
  have:=Ea M f B _ _ _ _ cS cH cF cL aK cK W h.m.box hc1 hn1
  rw[hst,hat] at this
  exact this.mono (fun e w' h'=>⟨h'.1,h.below h'.2⟩)
 have HCh:Hid (∀ W:Wq,Calls Pg 97 #[.agg #[Y aS M.slots.length cS,Y aH M.heads.length cH,Y aF M.free.length cF,Y aL M.locks.length cL,O J M.now],O J (b:Int)] W fun e w'=>e=.returned (.bool true)/\Below W.heap.size W w'):=fun W=>(show inB (b:Int) 0 ((M.heads.length:Int) - 1)=true from (Aj _ _ _).2 (by omega)) ▸ Gi _ _ _ _ _ _ _ _ cS cH cF cL M.now (b:Int) W (by omega)
 have HAh:Hid (∀ W:Wq,W.heap[B]?=some (.cells (List.toArray (Y aS M.slots.length cS :: Y aH M.heads.length cH :: Y aF M.free.length cF :: Y aL M.locks.length cL :: O J M.now :: Xb.rs)) Xb.rt (0,0))->Calls Pg 215 #[.pointer (some ⟨B,0,none⟩),O J f.prev] W fun e w'=>e=.returned (.bool true)/\Below W.heap.size W w'):=fun W hB=>a3t M B aS aH aF aL cS cH cF cL f.prev W hB hp0 hp1 hn1
 have HCt:Hid (∀ W:Wq,Lf Xb w W B lo aS aH aF aL cS cH cF cL M f aK cK->Calls Pg 216 #[.pointer (some ⟨B,0,none⟩),O J (b:Int),O J f.prev,O J (j:Int)] W fun e w'=>e=.returned (.tuple #[])/\Has Xb w' B lo (Up w (Ac B aS aH aF aL)) (I7 M b f.prev (j:Int))/\Fine w w' (Ac B aS aH aF aL)):=fun W h=>(a7d (Z:=Ac B aS aH aF aL) ⟨_,_,_,_,_,_,_,_,h.m,fun _ h=>h⟩ hM hjl hbl hp1).mono (fun e w' h'=>⟨h'.1,h.after h'.2.1 h'.2.2⟩)
 generalize I7 M b f.prev (j:Int)=M' at *
 obtain⟨of,hof⟩:=frObj f aK cK
 have HE:Hid (Lf Xb w (w.alloc of) B lo aS aH aF aL cS cH cF cL M f aK cK):=Lf.first m f aK cK hof
 obtain⟨f0,f1,f2,f3,f4,f5,f6,f7,f8,f9,f10,f11,f12,f13,ff,fs⟩:=A8 HE.out.fb
 clear m hM hf hns hnh hcur hc1 hn1 hp0 hp1 hat hst hj
 go_enter Tryz.func210,Tryz.ntmps210
 go_wp2_with fail
 rw[<- hof]
 generalize w.alloc of=W0 at *
 subst hof
 clear f0 f1 f2 f3 f4 f5 f6 f7 f8 f9 f10 f11 f12 f13 ff fs
 refine(HSt.out _ (by exact HE.out)).mono ?_
 rintro e w1 ⟨rfl,h9⟩
 have HE1:Hid (Lf Xb w w1 B lo aS aH aF aL cS cH cF cL M f aK cK):=h9
 clear HE h9
 obtain⟨q0,q1,q2,q3,q4,-,-,-,-,-,qs⟩:=Af HE1.out.m.box
 obtain⟨f0,f1,f2,f3,f4,f5,f6,f7,f8,f9,f10,f11,f12,f13,ff,fs⟩:=A8 HE1.out.fb
 go_wp2_with fail
 clear q0 q1 q2 q3 q4 qs f0 f1 f2 f3 f4 f5 f6 f7 f8 f9 f10 f11 f12 f13 ff fs
 refine(HCh.out w1).mono ?_
 rintro e w2 ⟨rfl,hb2⟩
 have HE2:Hid (Lf Xb w w2 B lo aS aH aF aL cS cH cF cL M f aK cK):=HE1.out.below hb2
 clear HE1 hb2
 obtain⟨q0,q1,q2,q3,q4,-,-,-,-,-,qs⟩:=Af HE2.out.m.box
 obtain⟨f0,f1,f2,f3,f4,f5,f6,f7,f8,f9,f10,f11,f12,f13,ff,fs⟩:=A8 HE2.out.fb
 go_wp2_with fail
 clear q0 q1 q2 q3 q4 qs f0 f1 f2 f3 f4 f5 f6 f7 f8 f9 f10 f11 f12 f13 ff fs
 refine(HAh.out w2 HE2.out.m.box).mono ?_
 rintro e w3 ⟨rfl,hb3⟩
 have HE3:Hid (Lf Xb w w3 B lo aS aH aF aL cS cH cF cL M f aK cK):=HE2.out.below hb3
 clear HE2 hb3
 obtain⟨q0,q1,q2,q3,q4,-,-,-,-,-,qs⟩:=Af HE3.out.m.box
 obtain⟨f0,f1,f2,f3,f4,f5,f6,f7,f8,f9,f10,f11,f12,f13,ff,fs⟩:=A8 HE3.out.fb
 go_wp2_with fail
 clear q0 q1 q2 q3 q4 qs f0 f1 f2 f3 f4 f5 f6 f7 f8 f9 f10 f11 f12 f13 ff fs
 refine(HCt.out w3 HE3.out).mono ?_
 rintro e w4 ⟨rfl,hh4,hf4⟩
 have HF4:Hid (Has Xb w4 B lo (Up w (Ac B aS aH aF aL)) M'/\Fine w w4 (Ac B aS aH aF aL)):=⟨hh4,hf4⟩
 clear hh4 hf4 HE3
 go_wp2
 go_ret2
 exact⟨rfl,HF4.out⟩
end
end Go.Proofs.YthhgoenomehobaaGreat.mm
