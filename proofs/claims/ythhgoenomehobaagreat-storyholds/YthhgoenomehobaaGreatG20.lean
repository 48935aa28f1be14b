/- Parts. -/
import Derived.Test.YthhgoenomehobaaGreatG07
import Derived.Test.YthhgoenomehobaaGreatG03
import Derived.Test.YthhgoenomehobaaGreatG05
import Derived.Test.YthhgoenomehobaaGreatG11
import Derived.Test.YthhgoenomehobaaGreatG04
import Derived.Deep.QuietTactic
import Derived.BigQuiet
import Derived.Lib.QuietBelow
import Derived.Test.YthhgoenomehobaaGreatG12
import Derived.BigRegion
namespace Go.Proofs.YthhgoenomehobaaGreat.mm
set_option maxRecDepth 100000
set_option linter.unusedVariables false
open Go.Value renaming int → O, slice → Y
open Go.IntKind renaming i64 → J
section
open Go.ChangeShapes Go.WideShapes Go.ChangeAt Go.RowKit Go.Joins
variable {Xb:Ex}
theorem cut_fine{M:Mm}{w:World}{B lo:Nat}{Z:Nat->Prop}{j b:Nat}{ah:Int}(H:Has Xb w B lo Z M)(hM:Ok M)(hj:j<M.slots.length)(hb:b<M.heads.length)(hah:ah<=M.slots.length) :
  Calls Tryz.prog 216 #[.pointer (some ⟨B,0,none⟩),O J b,O J ah,O J j] w fun e w'=>e=.returned (.tuple #[])/\Has Xb w' B lo (Up w Z) (cutM M b ah j)/\Fine w w' Z:=by
 obtain⟨aS,aH,aF,aL,cS,cH,cF,cL,m,hf⟩:=H
 obtain⟨gS,rfl,oS,lS,-,-⟩:=C9 m.c.s (by omega)
 obtain⟨gH,rfl,oH,lH,-,-⟩:=C9 m.c.h (by omega)
 obtain⟨c0,c1,c2,c3,c4,c5,fz⟩:=Fg m.c.s hj
 obtain⟨ch,fh⟩:=J5 m.c.h hb
 have zS:Z gS\/w.heap.size<=gS:=.inl (hf gS (.inr (.inl ⟨_,rfl,rfl⟩)))
 have zH:Z gH\/w.heap.size<=gH:=.inl (hf gH (.inr (.inr (.inl ⟨_,rfl,rfl⟩))))
 have hs:A7 M j=M.slots[j]:=Jc hj
 by_cases ha:0<ah
 ·obtain⟨p,rfl⟩:∃ p:Nat,ah=(p:Int)+1:=⟨(ah - 1).toNat,by omega⟩
  have hp:p<M.slots.length:=by omega
  obtain⟨_,_,_,_,_,d5,_⟩:=Fg m.c.s hp
  refine(cut_mid w B gS gH _ _ j b p cS cH _ _ _ _ _ _ m.box hj hb hM.ns hM.nh.2 hp c5 d5 (fz _) ch).mono ?_
  rintro e w' ⟨rfl,rfl⟩
  unfold cutM
  rw[if_pos ha,hs,show (p:Int)+1 - 1=p by omega,show A7 M p=M.slots[p] from Jc hp,Int.toNat_natCast]
  exact⟨rfl,⟨_,_,_,_,_,_,_,_,m.setS _ _ _ (Xo M.slots p hp _),fun k hk=>.inl (hf k hk)⟩,(Fine.refl w Z).set zS _ _⟩
 ·refine(a4n w B gS gH _ _ j b cS cH _ _ _ _ _ _ m.box hj hb hM.ns hM.nh.2 (by omega) c5 ch fh).mono ?_
  rintro e w' ⟨rfl,rfl⟩
  unfold cutM
  rw[if_neg ha,hs]
  exact⟨rfl,⟨_,_,_,_,_,_,_,_,m.setH b _,fun k hk=>.inl (hf k hk)⟩,(Fine.refl w Z).set zH _ _⟩
end
section
open Go.ChangeShapes Go.WideShapes Go.ChangeAt Go.RowKit Go.Joins Go.Deep Go.Sort
variable {Xb:Ex}
theorem a4a(M:Mm)(B:Nat)(aS aH aF aL:Option Addr)(cS cH cF cL:Nat)(p:Int)(w:World)(hB:w.heap[B]?=some (.cells (List.toArray (Y aS M.slots.length cS :: Y aH M.heads.length cH :: Y aF M.free.length cF :: Y aL M.locks.length cL :: O J M.now :: Xb.rs)) Xb.rt (0,0)))(h0:0<=p)(h1:p<=M.slots.length)(hn:M.slots.length<=1000) :
  Calls Tryz.prog 215 #[.pointer (some ⟨B,0,none⟩),O J p] w fun e w'=>e=.returned (.bool true)/\Below w.heap.size w w':=by
 obtain⟨q0,q1,q2,q3,q4,-,-,-,-,-,qs⟩:=boxf hB
 clear hB
 by_cases h:p<=0
 ·obtain rfl:p=0:=by omega
  go_enter Tryz.func215,Tryz.ntmps215
  go_wp2_with (go_at_call 140;refine(Oo _ _ h).mono ?_;rintro e w1 ⟨rfl,rfl⟩)
  go_ret
  exact⟨rfl,Below.refl _ _⟩
 ·have h':0<p:=by omega
  have hc:p<=1000:=by omega
  have e0:(p==0)=false:=by rw[beq_eq_false_iff_ne];omega
  have HS:Hid (∀ W:World,Calls Tryz.prog 111 #[.agg #[Y aS M.slots.length cS,Y aH M.heads.length cH,Y aF M.free.length cF,Y aL M.locks.length cL,O J M.now],O J (p - 1)] W fun e w'=>e=.returned (.bool true)/\Below W.heap.size W w'):=fun W=>(show inB (p - 1) 0 ((M.slots.length:Int) - 1)=true from (Ah _ _ _).2 (by omega)) ▸ Eh aS aH aF aL _ _ _ _ cS cH cF cL M.now (p - 1) W (by omega)
  clear hn h1 h0
  go_enter Tryz.func215,Tryz.ntmps215
  go_wp2_with (first|(go_at_call 140;refine(Om _ _ h' hc).mono ?_;rintro e w1 ⟨rfl,rfl⟩)|(go_at_call 111;refine(HS.out _).mono ?_;rintro e w2 ⟨rfl,hb2⟩))
  go_ret
  exact⟨rfl,hb2⟩
structure Lf(Xb:Ex)(w w1:World)(B lo:Nat)(aS aH aF aL:Option Addr)(cS cH cF cL:Nat)(M:Mm)(f:Fr)(aK:Option Addr)(cK:Nat):Prop where
 bl:Below w.heap.size w w1
 m:Mine Xb w1 B lo aS aH aF aL cS cH cF cL M
 fb:w1.heap[w.heap.size]?=some (.cells #[O J f.c.kind,O J f.c.a,O J f.c.b,O J f.c.time,O J f.c.bk,O J f.c.slot,O J f.pl,O J f.cur,O J f.prev,O J f.slot,O J f.n,Y aK f.keys.length cK,.bool f.done,O J f.e] 47 (0,0))
theorem Lf.below{w w1 w2:World}{B lo:Nat}{aS aH aF aL:Option Addr}{cS cH cF cL:Nat}{M:Mm}{f:Fr}{aK:Option Addr}{cK:Nat}(h:Lf Xb w w1 B lo aS aH aF aL cS cH cF cL M f aK cK)(hb:Below w1.heap.size w1 w2):Lf Xb w w2 B lo aS aH aF aL cS cH cF cL M f aK cK :=
 ⟨h.bl.trans (hb.mono h.bl.size),h.m.below hb,(hb.block _ (lt_of_block h.fb)).trans h.fb⟩
theorem Lf.after{w w1 w2:World}{B lo:Nat}{aS aH aF aL:Option Addr}{cS cH cF cL:Nat}{M M':Mm}{f:Fr}{aK:Option Addr}{cK:Nat}(h:Lf Xb w w1 B lo aS aH aF aL cS cH cF cL M f aK cK)(hh:Has Xb w2 B lo (Up w1 (Foot B aS aH aF aL)) M')(hf:Fine w1 w2 (Foot B aS aH aF aL)):Has Xb w2 B lo (Up w (Foot B aS aH aF aL)) M'/\Fine w w2 (Foot B aS aH aF aL) :=
 ⟨hh.mono (fun k _ hk=>hk.imp id (fun h'=>Nat.le_trans h.bl.size h')),(Fine.of_below _ h.bl).trans hf (fun _ _ h=>h)⟩
theorem Lf.first{w:World}{B lo:Nat}{aS aH aF aL:Option Addr}{cS cH cF cL:Nat}{M:Mm}(m:Mine Xb w B lo aS aH aF aL cS cH cF cL M)(f:Fr)(aK:Option Addr)(cK:Nat){o:Obj}(ho:o=.cells #[O J f.c.kind,O J f.c.a,O J f.c.b,O J f.c.time,O J f.c.bk,O J f.c.slot,O J f.pl,O J f.cur,O J f.prev,O J f.slot,O J f.n,Y aK f.keys.length cK,.bool f.done,O J f.e] 47):Lf Xb w (w.alloc o) B lo aS aH aF aL cS cH cF cL M f aK cK:=by
 subst ho
 exact⟨Aa _ _,m.below (Aa _ _),heap_alloc_new _ _⟩
set_option maxHeartbeats 3200000 in
theorem Xk(M:Mm)(f:Fr)(b:Nat)(B lo:Nat)(aS aH aF aL:Option Addr)(cS cH cF cL:Nat)(aK:Option Addr)(cK:Nat)(w:World)
  (m:Mine Xb w B lo aS aH aF aL cS cH cF cL M) (hM:Ok M) (hf:Fit M f) (hbl:b<M.heads.length) (hat:isAt M f=false) :
  Calls Tryz.prog 210 #[.pointer (some ⟨B,0,none⟩),O J (b:Int),.agg #[O J f.c.kind,O J f.c.a,O J f.c.b,O J f.c.time,O J f.c.bk,O J f.c.slot,O J f.pl,O J f.cur,O J f.prev,O J f.slot,O J f.n,Y aK f.keys.length cK,.bool f.done,O J f.e]] w fun e w'=>e=.returned (.tuple #[O J 0,.bool false])/\Below w.heap.size w w':=by
 have hns:=hM.ns
 have hnh:=hM.nh.2
 have hcur:=hf.cur.2
 have hc1:f.cur<=1000:=by omega
 have hn1:M.slots.length<=1000:=by omega
 obtain⟨hp0,hp1⟩:=hf.prev
 have HSt:Hid (∀ (W:World),Lf Xb w W B lo aS aH aF aL cS cH cF cL M f aK cK->Calls Tryz.prog 200 #[.pointer (some ⟨B,0,none⟩),.agg #[O J f.c.kind,O J f.c.a,O J f.c.b,O J f.c.time,O J f.c.bk,O J f.c.slot,O J f.pl,O J f.cur,O J f.prev,O J f.slot,O J f.n,Y aK f.keys.length cK,.bool f.done,O J f.e]] W fun e w'=>e=.returned (.tuple #[O J (stN f),.bool false])/\Lf Xb w w' B lo aS aH aF aL cS cH cF cL M f aK cK):=fun W h=>by
  have:=Ba M f B _ _ _ _ cS cH cF cL aK cK W h.m.box hc1 hn1
  rw[hat] at this
  exact this.mono (fun e w' h'=>⟨h'.1,h.below h'.2⟩)
 obtain⟨of,hof⟩:=frObj f aK cK
 have HE:Hid (Lf Xb w (w.alloc of) B lo aS aH aF aL cS cH cF cL M f aK cK):=Lf.first m f aK cK hof
 obtain⟨f0,f1,f2,f3,f4,f5,f6,f7,f8,f9,f10,f11,f12,f13,ff,fs⟩:=A8 HE.out.fb
 clear m hM hf hns hnh hcur hc1 hn1 hp0 hp1 hat
 go_enter Tryz.func210,Tryz.ntmps210
 go_wp2_with fail
 rw[<- hof]
 generalize w.alloc of=W0 at *
 subst hof
 clear f0 f1 f2 f3 f4 f5 f6 f7 f8 f9 f10 f11 f12 f13 ff fs
 refine(HSt.out _ (by exact HE.out)).mono ?_
 rintro e w1 ⟨rfl,h9⟩
 have HE1:Hid (Lf Xb w w1 B lo aS aH aF aL cS cH cF cL M f aK cK):=h9
 clear HE h9
 obtain⟨q0,q1,q2,q3,q4,-,-,-,-,-,qs⟩:=boxf HE1.out.m.box
 obtain⟨f0,f1,f2,f3,f4,f5,f6,f7,f8,f9,f10,f11,f12,f13,ff,fs⟩:=A8 HE1.out.fb
 go_wp2
 go_ret2
 exact⟨rfl,HE1.out.bl⟩
set_option maxHeartbeats 3200000 in
theorem Uu(M:Mm)(f:Fr)(b:Nat)(B lo:Nat)(aS aH aF aL:Option Addr)(cS cH cF cL:Nat)(aK:Option Addr)(cK:Nat)(w:World)
  (m:Mine Xb w B lo aS aH aF aL cS cH cF cL M) (hM:Ok M) (hf:Fit M f) (hbl:b<M.heads.length) (j:Nat) (hj:f.cur=(j:Int)+1) (hjl:j<M.slots.length) :
  Calls Tryz.prog 210 #[.pointer (some ⟨B,0,none⟩),O J (b:Int),.agg #[O J f.c.kind,O J f.c.a,O J f.c.b,O J f.c.time,O J f.c.bk,O J f.c.slot,O J f.pl,O J f.cur,O J f.prev,O J f.slot,O J f.n,Y aK f.keys.length cK,.bool f.done,O J f.e]] w fun e w'=>e=.returned (.tuple #[O J (j:Int),.bool true])/\Has Xb w' B lo (Up w (Foot B aS aH aF aL)) (cutM M b f.prev (j:Int))/\Fine w w' (Foot B aS aH aF aL):=by
 have hns:=hM.ns
 have hnh:=hM.nh.2
 have hcur:=hf.cur.2
 have hc1:f.cur<=1000:=by omega
 have hn1:M.slots.length<=1000:=by omega
 obtain⟨hp0,hp1⟩:=hf.prev
 have hat:isAt M f=true:=Bg.2 (by omega)
 have hst:stN f=j:=by unfold stN;rw[if_neg (by omega)];omega
 have HSt:Hid (∀ (W:World),Lf Xb w W B lo aS aH aF aL cS cH cF cL M f aK cK->Calls Tryz.prog 200 #[.pointer (some ⟨B,0,none⟩),.agg #[O J f.c.kind,O J f.c.a,O J f.c.b,O J f.c.time,O J f.c.bk,O J f.c.slot,O J f.pl,O J f.cur,O J f.prev,O J f.slot,O J f.n,Y aK f.keys.length cK,.bool f.done,O J f.e]] W fun e w'=>e=.returned (.tuple #[O J ((j:Int)),.bool true])/\Lf Xb w w' B lo aS aH aF aL cS cH cF cL M f aK cK):=fun W h=>by
  have:=Ba M f B _ _ _ _ cS cH cF cL aK cK W h.m.box hc1 hn1
  rw[hst,hat] at this
  exact this.mono (fun e w' h'=>⟨h'.1,h.below h'.2⟩)
 have HCh:Hid (∀ W:World,Calls Tryz.prog 97 #[.agg #[Y aS M.slots.length cS,Y aH M.heads.length cH,Y aF M.free.length cF,Y aL M.locks.length cL,O J M.now],O J (b:Int)] W fun e w'=>e=.returned (.bool true)/\Below W.heap.size W w'):=fun W=>(show inB (b:Int) 0 ((M.heads.length:Int) - 1)=true from (Ah _ _ _).2 (by omega)) ▸ Fj _ _ _ _ _ _ _ _ cS cH cF cL M.now (b:Int) W (by omega)
 have HAh:Hid (∀ W:World,W.heap[B]?=some (.cells (List.toArray (Y aS M.slots.length cS :: Y aH M.heads.length cH :: Y aF M.free.length cF :: Y aL M.locks.length cL :: O J M.now :: Xb.rs)) Xb.rt (0,0))->Calls Tryz.prog 215 #[.pointer (some ⟨B,0,none⟩),O J f.prev] W fun e w'=>e=.returned (.bool true)/\Below W.heap.size W w'):=fun W hB=>a4a M B aS aH aF aL cS cH cF cL f.prev W hB hp0 hp1 hn1
 have HCt:Hid (∀ W:World,Lf Xb w W B lo aS aH aF aL cS cH cF cL M f aK cK->Calls Tryz.prog 216 #[.pointer (some ⟨B,0,none⟩),O J (b:Int),O J f.prev,O J (j:Int)] W fun e w'=>e=.returned (.tuple #[])/\Has Xb w' B lo (Up w (Foot B aS aH aF aL)) (cutM M b f.prev (j:Int))/\Fine w w' (Foot B aS aH aF aL)):=fun W h=>(cut_fine (Z:=Foot B aS aH aF aL) ⟨_,_,_,_,_,_,_,_,h.m,fun _ h=>h⟩ hM hjl hbl hp1).mono (fun e w' h'=>⟨h'.1,h.after h'.2.1 h'.2.2⟩)
 generalize cutM M b f.prev (j:Int)=M' at *
 obtain⟨of,hof⟩:=frObj f aK cK
 have HE:Hid (Lf Xb w (w.alloc of) B lo aS aH aF aL cS cH cF cL M f aK cK):=Lf.first m f aK cK hof
 obtain⟨f0,f1,f2,f3,f4,f5,f6,f7,f8,f9,f10,f11,f12,f13,ff,fs⟩:=A8 HE.out.fb
 clear m hM hf hns hnh hcur hc1 hn1 hp0 hp1 hat hst hj
 go_enter Tryz.func210,Tryz.ntmps210
 go_wp2_with fail
 rw[<- hof]
 generalize w.alloc of=W0 at *
 subst hof
 clear f0 f1 f2 f3 f4 f5 f6 f7 f8 f9 f10 f11 f12 f13 ff fs
 refine(HSt.out _ (by exact HE.out)).mono ?_
 rintro e w1 ⟨rfl,h9⟩
 have HE1:Hid (Lf Xb w w1 B lo aS aH aF aL cS cH cF cL M f aK cK):=h9
 clear HE h9
 obtain⟨q0,q1,q2,q3,q4,-,-,-,-,-,qs⟩:=boxf HE1.out.m.box
 obtain⟨f0,f1,f2,f3,f4,f5,f6,f7,f8,f9,f10,f11,f12,f13,ff,fs⟩:=A8 HE1.out.fb
 go_wp2_with fail
 clear q0 q1 q2 q3 q4 qs f0 f1 f2 f3 f4 f5 f6 f7 f8 f9 f10 f11 f12 f13 ff fs
 refine(HCh.out w1).mono ?_
 rintro e w2 ⟨rfl,hb2⟩
 have HE2:Hid (Lf Xb w w2 B lo aS aH aF aL cS cH cF cL M f aK cK):=HE1.out.below hb2
 clear HE1 hb2
 obtain⟨q0,q1,q2,q3,q4,-,-,-,-,-,qs⟩:=boxf HE2.out.m.box
 obtain⟨f0,f1,f2,f3,f4,f5,f6,f7,f8,f9,f10,f11,f12,f13,ff,fs⟩:=A8 HE2.out.fb
 go_wp2_with fail
 clear q0 q1 q2 q3 q4 qs f0 f1 f2 f3 f4 f5 f6 f7 f8 f9 f10 f11 f12 f13 ff fs
 refine(HAh.out w2 HE2.out.m.box).mono ?_
 rintro e w3 ⟨rfl,hb3⟩
 have HE3:Hid (Lf Xb w w3 B lo aS aH aF aL cS cH cF cL M f aK cK):=HE2.out.below hb3
 clear HE2 hb3
 obtain⟨q0,q1,q2,q3,q4,-,-,-,-,-,qs⟩:=boxf HE3.out.m.box
 obtain⟨f0,f1,f2,f3,f4,f5,f6,f7,f8,f9,f10,f11,f12,f13,ff,fs⟩:=A8 HE3.out.fb
 go_wp2_with fail
 clear q0 q1 q2 q3 q4 qs f0 f1 f2 f3 f4 f5 f6 f7 f8 f9 f10 f11 f12 f13 ff fs
 refine(HCt.out w3 HE3.out).mono ?_
 rintro e w4 ⟨rfl,hh4,hf4⟩
 have HF4:Hid (Has Xb w4 B lo (Up w (Foot B aS aH aF aL)) M'/\Fine w w4 (Foot B aS aH aF aL)):=⟨hh4,hf4⟩
 clear hh4 hf4 HE3
 go_wp2
 go_ret2
 exact⟨rfl,HF4.out⟩
end
section
open Go.ChangeShapes Go.WideShapes Go.ChangeAt Go.RowKit Go.Joins Go.Deep Go.Sort
theorem Ph(f:Fr)(aK:Option Addr)(cK:Nat)(w:World) :
  Calls Tryz.prog 188 #[.agg #[O J f.c.kind,O J f.c.a,O J f.c.b,O J f.c.time,O J f.c.bk,O J f.c.slot,O J f.pl,O J f.cur,O J f.prev,O J f.slot,O J f.n,Y aK f.keys.length cK,.bool f.done,O J f.e]] w fun e w'=>e=.returned (.agg #[O J (errF f 8 5).c.kind,O J (errF f 8 5).c.a,O J (errF f 8 5).c.b,O J (errF f 8 5).c.time,O J (errF f 8 5).c.bk,O J (errF f 8 5).c.slot,O J (errF f 8 5).pl,O J (errF f 8 5).cur,O J (errF f 8 5).prev,O J (errF f 8 5).slot,O J (errF f 8 5).n,Y aK (errF f 8 5).keys.length cK,.bool (errF f 8 5).done,O J (errF f 8 5).e])/\Below w.heap.size w w':=by
 go_enter Tryz.func188,Tryz.ntmps188
 go_wp2_with fail
 refine(Bv { f with e:=8 } 5 aK cK _).mono ?_
 rintro e w9 ⟨rfl,hb9⟩
 have HE9:Hid (Below w.heap.size w w9/\w9.heap[w.heap.size+1]?=some Ac):=Zt hb9
 clear hb9
 obtain⟨g0,g1,g2,g3,g4,g5,g6,g7,g8,g9,g10,g11,g12,g13,gf,gs⟩:=A8 HE9.out.2
 go_wp2
 refine bodyPost_ret (v:=.agg #[O J (errF f 8 5).c.kind,O J (errF f 8 5).c.a,O J (errF f 8 5).c.b,O J (errF f 8 5).c.time,O J (errF f 8 5).c.bk,O J (errF f 8 5).c.slot,O J (errF f 8 5).pl,O J (errF f 8 5).cur,O J (errF f 8 5).prev,O J (errF f 8 5).slot,O J (errF f 8 5).n,Y aK (errF f 8 5).keys.length cK,.bool (errF f 8 5).done,O J (errF f 8 5).e]) (by simp[results,Tryz.results188,go_sem,errF,toF,g0,g1,g2,g3,g4,g5,g6,g7,g8,g9,g10,g11,g12,g13]) rfl ⟨rfl,Gg HE9.out.1⟩
end
section
open Go.ChangeShapes Go.WideShapes Go.ChangeAt Go.RowKit Go.Joins Go.Deep Go.Sort
variable {Xb:Ex}
set_option maxHeartbeats 3200000 in
theorem O0(M:Mm)(f:Fr)(b:Nat)(B lo:Nat)(aS aH aF aL:Option Addr)(cS cH cF cL:Nat)(aK:Option Addr)(cK:Nat)(w:World)
  (m:Mine Xb w B lo aS aH aF aL cS cH cF cL M) (hM:Ok M) (hbl:b<M.heads.length) :
  Calls Tryz.prog 208 #[.pointer (some ⟨B,0,none⟩),O J (b:Int),.agg #[O J f.c.kind,O J f.c.a,O J f.c.b,O J f.c.time,O J f.c.bk,O J f.c.slot,O J f.pl,O J f.cur,O J f.prev,O J f.slot,O J f.n,Y aK f.keys.length cK,.bool f.done,O J f.e]] w fun e w'=>e=.returned (.tuple #[.agg #[O J ({ f with prev:=0,cur:=Ar M b }).c.kind,O J ({ f with prev:=0,cur:=Ar M b }).c.a,O J ({ f with prev:=0,cur:=Ar M b }).c.b,O J ({ f with prev:=0,cur:=Ar M b }).c.time,O J ({ f with prev:=0,cur:=Ar M b }).c.bk,O J ({ f with prev:=0,cur:=Ar M b }).c.slot,O J ({ f with prev:=0,cur:=Ar M b }).pl,O J ({ f with prev:=0,cur:=Ar M b }).cur,O J ({ f with prev:=0,cur:=Ar M b }).prev,O J ({ f with prev:=0,cur:=Ar M b }).slot,O J ({ f with prev:=0,cur:=Ar M b }).n,Y aK ({ f with prev:=0,cur:=Ar M b }).keys.length cK,.bool ({ f with prev:=0,cur:=Ar M b }).done,O J ({ f with prev:=0,cur:=Ar M b }).e],.bool true])/\Has Xb w' B lo (Up w (Foot B aS aH aF aL)) M/\Fine w w' (Foot B aS aH aF aL):=by
 have hnh:=hM.nh.2
 obtain⟨gH,rfl,oH,lH,-,-⟩:=C9 m.c.h (by omega)
 obtain⟨x,hx⟩:∃ x,x=M.heads[b]:=⟨_,rfl⟩
 have hhd:Ar M b=x:=by rw[hx];simp[Ar,List.getD_eq_getElem?_getD,hbl]
 rw[hhd]
 have HX:Hid (∀ W,Mine Xb W B lo aS (some ⟨gH,0,none⟩) aF aL cS cH cF cL M->W.cell? ⟨gH,b,none⟩=some (O J x)):=fun W m'=>by rw[hx];exact(J5 m'.c.h hbl).1
 have HCh:Hid (∀ W:World,Calls Tryz.prog 97 #[.agg #[Y aS M.slots.length cS,Y (some ⟨gH,0,none⟩) M.heads.length cH,Y aF M.free.length cF,Y aL M.locks.length cL,O J M.now],O J (b:Int)] W fun e w'=>e=.returned (.bool true)/\Below W.heap.size W w'):=fun W=>(show inB (b:Int) 0 ((M.heads.length:Int) - 1)=true from (Ah _ _ _).2 (by omega)) ▸ Fj _ _ _ _ _ _ _ _ cS cH cF cL M.now (b:Int) W (by omega)
 obtain⟨of,hof⟩:=frObj f aK cK
 obtain⟨oz,hoz⟩:∃ o:Obj,o=Ac:=⟨_,rfl⟩
 have HE:Hid (Lk Xb w ((w.alloc of).alloc oz) B lo aS (some ⟨gH,0,none⟩) aF aL cS cH cF cL M f aK cK):=Lk.first m f aK cK hof hoz
 obtain⟨q0,q1,q2,q3,q4,-,-,-,-,-,qs⟩:=boxf m.box
 obtain⟨f0,f1,f2,f3,f4,f5,f6,f7,f8,f9,f10,f11,f12,f13,ff,fs⟩:=A8 HE.out.fb
 unfold Ac at hoz
 clear m hM hnh hx hhd oH lH
 go_enter Tryz.func208,Tryz.ntmps208
 go_wp2_with fail
 rw[<- hof,<- hoz]
 generalize (w.alloc of).alloc oz=W0 at *
 subst hof hoz
 clear q0 q1 q2 q3 q4 qs
 clear f0 f1 f2 f3 f4 f5 f6 f7 f8 f9 f10 f11 f12 f13 ff fs
 refine(HCh.out W0).mono ?_
 rintro e w2 ⟨rfl,hb2⟩
 have HE2:Hid (Lk Xb w w2 B lo aS (some ⟨gH,0,none⟩) aF aL cS cH cF cL M f aK cK):=HE.out.below hb2
 clear HE hb2
 obtain⟨q0,q1,q2,q3,q4,-,-,-,-,-,qs⟩:=boxf HE2.out.m.box
 obtain⟨f0,f1,f2,f3,f4,f5,f6,f7,f8,f9,f10,f11,f12,f13,ff,fs⟩:=A8 HE2.out.fb
 have hc:=HX.out w2 HE2.out.m
 have hcl:=cell_lt hc
 have hB0:B<w.heap.size:=HE2.out.lt B (.inl rfl)
 have hg0:gH<w.heap.size:=HE2.out.lt gH (.inr (.inr (.inl ⟨_,rfl,rfl⟩)))
 have hBn:B≠w.heap.size:=by omega
 have hgn:gH≠w.heap.size:=by omega
 have hBm:w.heap.size≠B:=by omega
 have hgm:w.heap.size≠gH:=by omega
 go_wp2_with fail
 rename_i K0 hK0
 apply Gv (R:=fun a=>∀ W2:World,Lk2 Xb w W2 (Foot B aS (some ⟨gH,0,none⟩) aF aL) B lo M { f with prev:=0,cur:=x } aK cK->K0 a W2)
 ·intro tail0
  have tail:Hid _:=tail0
  clear tail0
  go_region
  all_goals exact tail.out _ (((HE2.out.store 8 (O J 0) { f with prev:=0 } rfl).store 7 (O J x) { f with prev:=0,cur:=x } rfl).two.below ⟨rfl,rfl,rfl,Nat.le_refl _,fun _ _=>rfl⟩)
 intro w3 h3
 have HE3:Hid (Lk2 Xb w w3 (Foot B aS (some ⟨gH,0,none⟩) aF aL) B lo M { f with prev:=0,cur:=x } aK cK):=h3
 refine hK0 _ _ ?_
 clear h3 hK0 HE2 hc hcl hB0 hg0 hBn hgn hBm hgm
 clear f0 f1 f2 f3 f4 f5 f6 f7 f8 f9 f10 f11 f12 f13 ff fs
 obtain⟨f0,f1,f2,f3,f4,f5,f6,f7,f8,f9,f10,f11,f12,f13,ff,fs⟩:=A8 HE3.out.fb
 clear q0 q1 q2 q3 q4 qs
 obtain⟨g0,g1,g2,g3,g4,g5,g6,g7,g8,g9,g10,g11,g12,g13,gf,gs⟩:=A8 HE3.out.zb
 go_wp2
 refine bodyPost_ret (v:=.tuple #[.agg #[O J ({ f with prev:=0,cur:=x }).c.kind,O J ({ f with prev:=0,cur:=x }).c.a,O J ({ f with prev:=0,cur:=x }).c.b,O J ({ f with prev:=0,cur:=x }).c.time,O J ({ f with prev:=0,cur:=x }).c.bk,O J ({ f with prev:=0,cur:=x }).c.slot,O J ({ f with prev:=0,cur:=x }).pl,O J ({ f with prev:=0,cur:=x }).cur,O J ({ f with prev:=0,cur:=x }).prev,O J ({ f with prev:=0,cur:=x }).slot,O J ({ f with prev:=0,cur:=x }).n,Y aK ({ f with prev:=0,cur:=x }).keys.length cK,.bool ({ f with prev:=0,cur:=x }).done,O J ({ f with prev:=0,cur:=x }).e],.bool true]) (by simp[results,Tryz.results208,go_sem,g0,g1,g2,g3,g4,g5,g6,g7,g8,g9,g10,g11,g12,g13]) rfl ⟨rfl,HE3.out.Ae⟩
set_option maxHeartbeats 3200000 in
theorem Vg(M:Mm)(f:Fr)(B lo:Nat)(aS aH aF aL:Option Addr)(cS cH cF cL:Nat)(aK:Option Addr)(cK:Nat)(w:World)
  (m:Mine Xb w B lo aS aH aF aL cS cH cF cL M) (hM:Ok M) (hf:Fit M f) (hat:isAt M f=true) :
  Calls Tryz.prog 209 #[.pointer (some ⟨B,0,none⟩),.agg #[O J f.c.kind,O J f.c.a,O J f.c.b,O J f.c.time,O J f.c.bk,O J f.c.slot,O J f.pl,O J f.cur,O J f.prev,O J f.slot,O J f.n,Y aK f.keys.length cK,.bool f.done,O J f.e]] w fun e w'=>e=.returned (.tuple #[.agg #[O J ({ f with prev:=f.cur,cur:=(A7 M (f.cur - 1)).next }).c.kind,O J ({ f with prev:=f.cur,cur:=(A7 M (f.cur - 1)).next }).c.a,O J ({ f with prev:=f.cur,cur:=(A7 M (f.cur - 1)).next }).c.b,O J ({ f with prev:=f.cur,cur:=(A7 M (f.cur - 1)).next }).c.time,O J ({ f with prev:=f.cur,cur:=(A7 M (f.cur - 1)).next }).c.bk,O J ({ f with prev:=f.cur,cur:=(A7 M (f.cur - 1)).next }).c.slot,O J ({ f with prev:=f.cur,cur:=(A7 M (f.cur - 1)).next }).pl,O J ({ f with prev:=f.cur,cur:=(A7 M (f.cur - 1)).next }).cur,O J ({ f with prev:=f.cur,cur:=(A7 M (f.cur - 1)).next }).prev,O J ({ f with prev:=f.cur,cur:=(A7 M (f.cur - 1)).next }).slot,O J ({ f with prev:=f.cur,cur:=(A7 M (f.cur - 1)).next }).n,Y aK ({ f with prev:=f.cur,cur:=(A7 M (f.cur - 1)).next }).keys.length cK,.bool ({ f with prev:=f.cur,cur:=(A7 M (f.cur - 1)).next }).done,O J ({ f with prev:=f.cur,cur:=(A7 M (f.cur - 1)).next }).e],.bool true])/\Has Xb w' B lo (Up w (Foot B aS aH aF aL)) M/\Fine w w' (Foot B aS aH aF aL):=by
 have hns:=hM.ns
 have hcur:=hf.cur.2
 have hc1:f.cur<=1000:=by omega
 have hn1:M.slots.length<=1000:=by omega
 have h1:=Bg.1 hat
 obtain⟨j,hj⟩:∃ j:Nat,f.cur - 1=j:=⟨(f.cur - 1).toNat,by omega⟩
 have hjl:j<M.slots.length:=by omega
 obtain⟨gS,rfl,oS,lS,kS,-⟩:=C9 m.c.s (by omega)
 obtain⟨s,hs⟩:∃ s,s=A7 M (j:Int):=⟨_,rfl⟩
 have hst:stN f=j:=by unfold stN;rw[if_neg (by omega)];exact hj
 rw[hj,<- hs]
 have HSt:Hid (∀ (W:World),Lk Xb w W B lo (some ⟨gS,0,none⟩) aH aF aL cS cH cF cL M f aK cK->Calls Tryz.prog 200 #[.pointer (some ⟨B,0,none⟩),.agg #[O J f.c.kind,O J f.c.a,O J f.c.b,O J f.c.time,O J f.c.bk,O J f.c.slot,O J f.pl,O J f.cur,O J f.prev,O J f.slot,O J f.n,Y aK f.keys.length cK,.bool f.done,O J f.e]] W fun e w'=>e=.returned (.tuple #[O J ((j:Int)),.bool true])/\Lk Xb w w' B lo (some ⟨gS,0,none⟩) aH aF aL cS cH cF cL M f aK cK):=fun W h=>by
  have:=Ba M f B _ _ _ _ cS cH cF cL aK cK W h.m.box hc1 hn1
  rw[hst,hat] at this
  exact this.mono (fun e w' h'=>⟨h'.1,h.below h'.2⟩)
 have HX:Hid (∀ W,Mine Xb W B lo (some ⟨gS,0,none⟩) aH aF aL cS cH cF cL M->W.cell? ⟨gS,j*6+1,none⟩=some (O J s.a)/\W.cell? ⟨gS,j*6+2,none⟩=some (O J s.b)/\W.cell? ⟨gS,j*6+5,none⟩=some (O J s.next)):=fun W m'=>⟨(Ak m'.c.s hjl hs).2.1,(Ak m'.c.s hjl hs).2.2.1,(Ak m'.c.s hjl hs).2.2.2.2.2.1⟩
 obtain⟨of,hof⟩:=frObj f aK cK
 obtain⟨oz,hoz⟩:∃ o:Obj,o=Ac:=⟨_,rfl⟩
 have HE:Hid (Lk Xb w ((w.alloc of).alloc oz) B lo (some ⟨gS,0,none⟩) aH aF aL cS cH cF cL M f aK cK):=Lk.first m f aK cK hof hoz
 obtain⟨q0,q1,q2,q3,q4,-,-,-,-,-,qs⟩:=boxf HE.out.m.box
 obtain⟨f0,f1,f2,f3,f4,f5,f6,f7,f8,f9,f10,f11,f12,f13,ff,fs⟩:=A8 HE.out.fb
 unfold Ac at hoz
 clear m hM hf hns hcur hc1 hn1 hs hst hat h1
 go_enter Tryz.func209,Tryz.ntmps209
 go_wp2_with fail
 rw[<- hof,<- hoz]
 generalize (w.alloc of).alloc oz=W0 at *
 subst hof hoz
 clear q0 q1 q2 q3 q4 qs
 clear f0 f1 f2 f3 f4 f5 f6 f7 f8 f9 f10 f11 f12 f13 ff fs
 refine(HSt.out _ (by exact HE.out.below ⟨rfl,rfl,rfl,Nat.le_refl _,fun _ _=>rfl⟩)).mono ?_
 rintro e w1 ⟨rfl,h9⟩
 have HE1:Hid (Lk Xb w w1 B lo (some ⟨gS,0,none⟩) aH aF aL cS cH cF cL M f aK cK):=h9
 clear HE h9
 obtain⟨q0,q1,q2,q3,q4,-,-,-,-,-,qs⟩:=boxf HE1.out.m.box
 obtain⟨f0,f1,f2,f3,f4,f5,f6,f7,f8,f9,f10,f11,f12,f13,ff,fs⟩:=A8 HE1.out.fb
 obtain⟨x1,x2,x5⟩:=HX.out w1 HE1.out.m
 have hB0:B<w.heap.size:=HE1.out.lt B (.inl rfl)
 have hg0:gS<w.heap.size:=HE1.out.lt gS (.inr (.inl ⟨_,rfl,rfl⟩))
 have hBn:B≠w.heap.size:=by omega
 have hgn:gS≠w.heap.size:=by omega
 have hBm:w.heap.size≠B:=by omega
 have hgm:w.heap.size≠gS:=by omega
 go_wp2_with fail
 rename_i K0 hK0
 apply Gv (R:=fun a=>∀ W2:World,Lk2 Xb w W2 (Foot B (some ⟨gS,0,none⟩) aH aF aL) B lo M { f with prev:=f.cur,cur:=s.next } aK cK->K0 a W2)
 ·intro tail0
  have tail:Hid _:=tail0
  clear tail0
  go_region
  all_goals exact tail.out _ (((HE1.out.store 8 (O J f.cur) { f with prev:=f.cur } rfl).store 7 (O J s.next) { f with prev:=f.cur,cur:=s.next } rfl).two.below ⟨rfl,rfl,rfl,Nat.le_refl _,fun _ _=>rfl⟩)
 intro w3 h3
 have HE2:Hid (Lk2 Xb w w3 (Foot B (some ⟨gS,0,none⟩) aH aF aL) B lo M { f with prev:=f.cur,cur:=s.next } aK cK):=h3
 refine hK0 _ _ ?_
 clear h3 hK0 HE1 x1 x2 x5 hB0 hg0 hBn hgn hBm hgm
 clear f0 f1 f2 f3 f4 f5 f6 f7 f8 f9 f10 f11 f12 f13 ff fs
 obtain⟨f0,f1,f2,f3,f4,f5,f6,f7,f8,f9,f10,f11,f12,f13,ff,fs⟩:=A8 HE2.out.fb
 clear q0 q1 q2 q3 q4 qs
 obtain⟨g0,g1,g2,g3,g4,g5,g6,g7,g8,g9,g10,g11,g12,g13,gf,gs⟩:=A8 HE2.out.zb
 go_wp2
 refine bodyPost_ret (v:=.tuple #[.agg #[O J ({ f with prev:=f.cur,cur:=s.next }).c.kind,O J ({ f with prev:=f.cur,cur:=s.next }).c.a,O J ({ f with prev:=f.cur,cur:=s.next }).c.b,O J ({ f with prev:=f.cur,cur:=s.next }).c.time,O J ({ f with prev:=f.cur,cur:=s.next }).c.bk,O J ({ f with prev:=f.cur,cur:=s.next }).c.slot,O J ({ f with prev:=f.cur,cur:=s.next }).pl,O J ({ f with prev:=f.cur,cur:=s.next }).cur,O J ({ f with prev:=f.cur,cur:=s.next }).prev,O J ({ f with prev:=f.cur,cur:=s.next }).slot,O J ({ f with prev:=f.cur,cur:=s.next }).n,Y aK ({ f with prev:=f.cur,cur:=s.next }).keys.length cK,.bool ({ f with prev:=f.cur,cur:=s.next }).done,O J ({ f with prev:=f.cur,cur:=s.next }).e],.bool true]) (by simp[results,Tryz.results209,go_sem,g0,g1,g2,g3,g4,g5,g6,g7,g8,g9,g10,g11,g12,g13]) rfl ⟨rfl,HE2.out.Ae⟩
set_option maxHeartbeats 3200000 in
theorem Y2(M:Mm)(f:Fr)(B lo:Nat)(aS aH aF aL:Option Addr)(cS cH cF cL:Nat)(aK:Option Addr)(cK:Nat)(w:World)
  (m:Mine Xb w B lo aS aH aF aL cS cH cF cL M) (hM:Ok M) (hf:Fit M f) (hat0:isAt M f=false) :
  Calls Tryz.prog 209 #[.pointer (some ⟨B,0,none⟩),.agg #[O J f.c.kind,O J f.c.a,O J f.c.b,O J f.c.time,O J f.c.bk,O J f.c.slot,O J f.pl,O J f.cur,O J f.prev,O J f.slot,O J f.n,Y aK f.keys.length cK,.bool f.done,O J f.e]] w fun e w'=>e=.returned (.tuple #[.agg #[O J f.c.kind,O J f.c.a,O J f.c.b,O J f.c.time,O J f.c.bk,O J f.c.slot,O J f.pl,O J f.cur,O J f.prev,O J f.slot,O J f.n,Y aK f.keys.length cK,.bool f.done,O J f.e],.bool false])/\Has Xb w' B lo (Up w (Foot B aS aH aF aL)) M/\Fine w w' (Foot B aS aH aF aL):=by
 have hns:=hM.ns
 have hcur:=hf.cur.2
 have hc1:f.cur<=1000:=by omega
 have hn1:M.slots.length<=1000:=by omega
 have HSt:Hid (∀ (W:World),Lk Xb w W B lo aS aH aF aL cS cH cF cL M f aK cK->Calls Tryz.prog 200 #[.pointer (some ⟨B,0,none⟩),.agg #[O J f.c.kind,O J f.c.a,O J f.c.b,O J f.c.time,O J f.c.bk,O J f.c.slot,O J f.pl,O J f.cur,O J f.prev,O J f.slot,O J f.n,Y aK f.keys.length cK,.bool f.done,O J f.e]] W fun e w'=>e=.returned (.tuple #[O J (stN f),.bool false])/\Lk Xb w w' B lo aS aH aF aL cS cH cF cL M f aK cK):=fun W h=>by
  have:=Ba M f B _ _ _ _ cS cH cF cL aK cK W h.m.box hc1 hn1
  rw[hat0] at this
  exact this.mono (fun e w' h'=>⟨h'.1,h.below h'.2⟩)
 obtain⟨of,hof⟩:=frObj f aK cK
 obtain⟨oz,hoz⟩:∃ o:Obj,o=Ac:=⟨_,rfl⟩
 have HE:Hid (Lk Xb w ((w.alloc of).alloc oz) B lo aS aH aF aL cS cH cF cL M f aK cK):=Lk.first m f aK cK hof hoz
 obtain⟨q0,q1,q2,q3,q4,-,-,-,-,-,qs⟩:=boxf HE.out.m.box
 obtain⟨f0,f1,f2,f3,f4,f5,f6,f7,f8,f9,f10,f11,f12,f13,ff,fs⟩:=A8 HE.out.fb
 unfold Ac at hoz
 clear m hM hf hns hcur hc1 hn1 hat0
 go_enter Tryz.func209,Tryz.ntmps209
 go_wp2_with fail
 rw[<- hof,<- hoz]
 generalize (w.alloc of).alloc oz=W0 at *
 subst hof hoz
 clear q0 q1 q2 q3 q4 qs
 clear f0 f1 f2 f3 f4 f5 f6 f7 f8 f9 f10 f11 f12 f13 ff fs
 refine(HSt.out _ (by exact HE.out.below ⟨rfl,rfl,rfl,Nat.le_refl _,fun _ _=>rfl⟩)).mono ?_
 rintro e w1 ⟨rfl,h9⟩
 have HE1:Hid (Lk Xb w w1 B lo aS aH aF aL cS cH cF cL M f aK cK):=h9
 clear HE h9
 obtain⟨f0,f1,f2,f3,f4,f5,f6,f7,f8,f9,f10,f11,f12,f13,ff,fs⟩:=A8 HE1.out.fb
 obtain⟨g0,g1,g2,g3,g4,g5,g6,g7,g8,g9,g10,g11,g12,g13,gf,gs⟩:=A8 HE1.out.zb
 go_wp2
 refine bodyPost_ret (v:=.tuple #[.agg #[O J f.c.kind,O J f.c.a,O J f.c.b,O J f.c.time,O J f.c.bk,O J f.c.slot,O J f.pl,O J f.cur,O J f.prev,O J f.slot,O J f.n,Y aK f.keys.length cK,.bool f.done,O J f.e],.bool false]) (by simp[results,Tryz.results209,go_sem,g0,g1,g2,g3,g4,g5,g6,g7,g8,g9,g10,g11,g12,g13]) rfl ⟨rfl,HE1.out.Ae⟩
end
end Go.Proofs.YthhgoenomehobaaGreat.mm
