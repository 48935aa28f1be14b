/- Parts. -/
import Derived.Test.YthhgoenomehobaaGreatG02
import Derived.Laws.AppendOwnNone
import Derived.Deep.RegionLaw
import Derived.Deep.QuietTactic
import Derived.BigQuiet
import Derived.BigRegion
import Derived.Test.YthhgoenomehobaaGreatG03
import Derived.Test.YthhgoenomehobaaGreatG01
import Derived.Laws.StructEq
namespace Go.Proofs.YthhgoenomehobaaGreat.mm
set_option maxRecDepth 100000
set_option linter.unusedVariables false
open Go.Value renaming int → O, slice → Y
open Go.IntKind renaming i64 → J
section
open Go.ChangeShapes Go.WideShapes Go.ChangeAt Go.RowKit Go.Joins
variable {Xb:Ex}
theorem Fine.set6{w w1:World}{Z:Nat->Prop}{g:Nat}(h:Fine w w1 Z)(hk:Z g\/w.heap.size<=g)(o:Nat)(s:Sl):Fine w (mm.set6 w1 g o s) Z:=by
 unfold mm.set6
 exact(((((h.set hk _ _).set hk _ _).set hk _ _).set hk _ _).set hk _ _).set hk _ _
theorem a5q{M:Mm}(hM:Ok M)(hF:0<M.free.length)(ka kb u:Int):∃ n j:Nat,∃ hn:M.free.length=n+1,∃ hj:j<M.slots.length,M.free[n]'(by omega)=j/\Em M=j/\Ik M ka kb u = { M with slots:=M.slots.set j ⟨1,ka,kb,u,false,M.slots[j].next⟩,free:=M.free.take n }:=by
 have hl:=Ws hM (by omega)
 obtain⟨n,hn⟩:∃ n,M.free.length=n+1:=⟨M.free.length - 1,by omega⟩
 have hnF:n<M.free.length:=by omega
 have hlast:Em M=M.free[n]:=by
  show M.free.getD (M.free.length - 1) 0=_
  rw[show M.free.length - 1=n by omega]
  simp[List.getD_eq_getElem?_getD,hnF]
 obtain⟨j,hj⟩:∃ j:Nat,Em M=j:=⟨(Em M).toNat,by omega⟩
 have hjS:j<M.slots.length:=by omega
 refine⟨n,j,hn,hjS,hlast.symm.trans hj,hj,?_⟩
 unfold Ik
 rw[hj,show M.free.length - 1=n by omega]
 simp[List.getD_eq_getElem?_getD,hjS]
theorem a7p{M:Mm}{w:World}{B lo:Nat}{Z:Nat->Prop}{ka kb u:Int}(H:Has Xb w B lo Z M)(hM:Ok M)(hF:0<M.free.length) :
  Calls Tryz.prog 203 #[.pointer (some ⟨B,0,none⟩),.agg #[O J ka,O J kb],O J u] w fun e w'=>e=.returned (.tuple #[O J (Em M),.bool true])/\Has Xb w' B lo (Up w Z) (Ik M ka kb u)/\Fine w w' Z:=by
 obtain⟨aS,aH,aF,aL,cS,cH,cF,cL,m,hf⟩:=H
 obtain⟨n,j,hn,hjS,hFj,hj,hT⟩:=a5q hM hF ka kb u
 obtain⟨gS,rfl,oS,lS,-,-⟩:=C9 m.c.s (by omega)
 obtain⟨gF,rfl,oF,lF,kF,kF2⟩:=C9 m.c.f hF
 rw[hT,hj]
 refine(take_in w B lo gS gF n j cS cH cF cL aH aL M ka kb u m hn hjS hFj (by omega) kF2).mono ?_
 rintro e w' ⟨rfl,w1,hb1,rfl⟩
 have mp:=((m.below hb1).pop hn).set6 (j:=j) hjS ⟨1,ka,kb,u,false,M.slots[j].next⟩
 have kp:Fine w _ Z:=(((Fine.of_below Z hb1).set (k:=B) (.inl (hf _ (.inl rfl))) 2 (Y (some ⟨gF,0,none⟩) n cF))).set6 (.inl (hf gS (.inr (.inl ⟨_,rfl,rfl⟩)))) (j*6) ⟨1,ka,kb,u,false,M.slots[j].next⟩
 generalize mm.set6 (w1.setCell ⟨B,2,none⟩ (Y (some ⟨gF,0,none⟩) n cF)) gS (j*6) ⟨1,ka,kb,u,false,M.slots[j].next⟩=W at *
 have hb:Below W.heap.size W W.drew:=(Below.refl _ _).drew
 exact⟨rfl,⟨_,_,_,_,_,_,_,_,mp.below hb,fun k hk=>.inl (hf k hk)⟩,kp.below hb⟩
theorem a7r{M:Mm}{w:World}{B lo:Nat}{Z:Nat->Prop}{ka kb u:Int}(H:Has Xb w B lo Z M)(hF:M.free.length=0) :
  Calls Tryz.prog 203 #[.pointer (some ⟨B,0,none⟩),.agg #[O J ka,O J kb],O J u] w fun e w'=>e=.returned (.tuple #[O J 0,.bool false])/\Below w.heap.size w w':=by
 obtain⟨aS,aH,aF,aL,cS,cH,cF,cL,m,hf⟩:=H
 have hB:=m.box
 rw[hF] at hB
 exact take_no w B _ _ _ _ aF cF ka kb u hB
theorem linkB_at(M:Mm)(j b:Nat):J7 M j b=linkAt M j b:=rfl
theorem a5t{M:Mm}{w:World}{B lo:Nat}{Z:Nat->Prop}{j b:Nat}(H:Has Xb w B lo Z M)(hM:Ok M)(hj:j<M.slots.length)(hb:b<M.heads.length) :
  Calls Tryz.prog 206 #[.pointer (some ⟨B,0,none⟩),O J b,O J j] w fun e w'=>e=.returned (.tuple #[])/\Has Xb w' B lo (Up w Z) (J7 M j b)/\Fine w w' Z:=by
 obtain⟨aS,aH,aF,aL,cS,cH,cF,cL,m,hf⟩:=H
 obtain⟨gS,rfl,oS,lS,-,-⟩:=C9 m.c.s (by omega)
 obtain⟨gH,rfl,oH,lH,-,-⟩:=C9 m.c.h (by omega)
 obtain⟨c0,c1,c2,c3,c4,c5,fz⟩:=Fg m.c.s hj
 obtain⟨ch,fh⟩:=J5 m.c.h hb
 have dj:gS≠gH:=fun e=>Ia m.c.s m.c.h (by first|decide|exact Ex.ne _ _ (by decide)) gS rfl (by rw[e];rfl)
 refine(link_in w B gS gH _ _ j b cS cH _ _ _ _ _ _ m.box hj hb hM.ns hM.nh.2 m.ne_s dj m.ne_h lS lH c4 c5 fz ch fh).mono ?_
 rintro e w' ⟨rfl,rfl⟩
 have hs:A7 M j=M.slots[j]:=Jc hj
 have hhd:Ar M b=M.heads[b]:=by simp[Ar,List.getD_eq_getElem?_getD,hb]
 rw[linkB_at]
 unfold linkAt
 rw[hs,hhd]
 have h5:=Xo M.slots j hj M.heads[b]
 have h2:=a4t M.slots j hj M.heads[b] true
 rw[h5] at h2
 have m2:=((m.setS (j*6+5) (O J M.heads[b]) _ h5).setS (j*6+4) (.bool true) _ h2).setH b ((j:Int)+1)
 have zS:Z gS\/w.heap.size<=gS:=.inl (hf gS (.inr (.inl ⟨_,rfl,rfl⟩)))
 have zH:Z gH\/w.heap.size<=gH:=.inl (hf gH (.inr (.inr (.inl ⟨_,rfl,rfl⟩))))
 have k2:Fine w _ Z:=(((Fine.refl w Z).set zS (j*6+5) (O J M.heads[b])).set zS (j*6+4) (.bool true)).set zH b (O J ((j:Int)+1))
 generalize ((w.setCell ⟨gS,j*6+5,none⟩ (O J M.heads[b])).setCell ⟨gS,j*6+4,none⟩ (.bool true)).setCell ⟨gH,b,none⟩ (O J ((j:Int)+1))=W at *
 have hbl:Below W.heap.size W W.drew:=(Below.refl _ _).drew
 exact⟨rfl,⟨_,_,_,_,_,_,_,_,m2.below hbl,fun k hk=>.inl (hf k hk)⟩,k2.below hbl⟩
theorem Iw(w:World)(B gL nL b cL:Nat)(sv hv fv nv:Value)(x t:Int)
  (hB:w.heap[B]?=some (.cells (List.toArray (sv :: hv :: fv :: Y (some ⟨gL,0,none⟩) nL cL :: nv :: Xb.rs)) Xb.rt (0,0))) (hb:b<nL) (hn:nL<=1000) (c:w.cell? ⟨gL,b,none⟩=some (O J x)) :
  Calls Tryz.prog 213 #[.pointer (some ⟨B,0,none⟩),O J b,O J t] w fun e w'=>e=.returned (.bool (x==t))/\w=w':=by
 obtain⟨q0,q1,q2,q3,q4,-,-,-,-,-,qs⟩:=boxf hB
 have hw:inB (b:Int) 0 ((nL:Int) - 1)=true:=(Ah _ _ _).2 (by omega)
 have HW:Hid (∀ W:World,Calls Tryz.prog 85 #[O J (b:Int),O J 0,O J ((nL:Int) - 1)] W fun e w'=>e=.returned (.bool true)/\W=w'):=fun W=>hw ▸ Bi _ _ _ W
 clear hB hw
 go_enter Tryz.func213,Tryz.ntmps213
 go_wp2_with (go_at_call 85;refine(HW.out _).mono ?_;rintro e w1 ⟨rfl,rfl⟩)
 go_ret
 exact⟨rfl,rfl⟩
theorem lock_yes(w:World)(B gL nL b cL:Nat)(sv hv fv nv:Value)(t:Int)
  (hB:w.heap[B]?=some (.cells (List.toArray (sv :: hv :: fv :: Y (some ⟨gL,0,none⟩) nL cL :: nv :: Xb.rs)) Xb.rt (0,0))) (hb:b<nL) (hn:nL<=1000) (c:w.cell? ⟨gL,b,none⟩=some (O J (-1))) (fz:w.frozen? ⟨gL,b,none⟩=false) :
  Calls Tryz.prog 205 #[.pointer (some ⟨B,0,none⟩),O J b,O J t] w fun e w'=>e=.returned (.bool true)/\w.setCell ⟨gL,b,none⟩ (O J t)=w':=by
 have HW:Hid (Calls Tryz.prog 213 #[.pointer (some ⟨B,0,none⟩),O J b,O J (-1)] w fun e w'=>e=.returned (.bool true)/\w=w'):=Iw w B gL nL b cL sv hv fv nv (-1) (-1) hB hb hn c
 obtain⟨q0,q1,q2,q3,q4,-,-,-,-,-,qs⟩:=boxf hB
 clear hB
 go_enter Tryz.func205,Tryz.ntmps205
 go_wp2_with (go_at_call 213;refine HW.out.mono ?_;rintro e w1 ⟨rfl,rfl⟩)
 go_ret
 exact⟨rfl,rfl⟩
theorem lock_no(w:World)(B gL nL b cL:Nat)(sv hv fv nv:Value)(x t:Int)
  (hB:w.heap[B]?=some (.cells (List.toArray (sv :: hv :: fv :: Y (some ⟨gL,0,none⟩) nL cL :: nv :: Xb.rs)) Xb.rt (0,0))) (hb:b<nL) (hn:nL<=1000) (c:w.cell? ⟨gL,b,none⟩=some (O J x)) (hx:(x == -1)=false) :
  Calls Tryz.prog 205 #[.pointer (some ⟨B,0,none⟩),O J b,O J t] w fun e w'=>e=.returned (.bool false)/\w=w':=by
 have HW:Hid (Calls Tryz.prog 213 #[.pointer (some ⟨B,0,none⟩),O J b,O J (-1)] w fun e w'=>e=.returned (.bool false)/\w=w'):=hx ▸ Iw w B gL nL b cL sv hv fv nv x (-1) hB hb hn c
 obtain⟨q0,q1,q2,q3,q4,-,-,-,-,-,qs⟩:=boxf hB
 clear hB hx
 go_enter Tryz.func205,Tryz.ntmps205
 go_wp2_with (go_at_call 213;refine HW.out.mono ?_;rintro e w1 ⟨rfl,rfl⟩)
 go_ret
 exact⟨rfl,rfl⟩
theorem a3t(w:World)(B gL nL b cL:Nat)(sv hv fv nv:Value)(t:Int)
  (hB:w.heap[B]?=some (.cells (List.toArray (sv :: hv :: fv :: Y (some ⟨gL,0,none⟩) nL cL :: nv :: Xb.rs)) Xb.rt (0,0))) (hb:b<nL) (hn:nL<=1000) (c:w.cell? ⟨gL,b,none⟩=some (O J t)) (fz:w.frozen? ⟨gL,b,none⟩=false) :
  Calls Tryz.prog 207 #[.pointer (some ⟨B,0,none⟩),O J b,O J t] w fun e w'=>e=.returned (.tuple #[])/\w.setCell ⟨gL,b,none⟩ (O J (-1))=w':=by
 have HW:Hid (Calls Tryz.prog 213 #[.pointer (some ⟨B,0,none⟩),O J b,O J t] w fun e w'=>e=.returned (.bool true)/\w=w'):=(show (t==t)=true by simp) ▸ Iw w B gL nL b cL sv hv fv nv t t hB hb hn c
 obtain⟨q0,q1,q2,q3,q4,-,-,-,-,-,qs⟩:=boxf hB
 clear hB
 go_enter Tryz.func207,Tryz.ntmps207
 go_wp2_with (go_at_call 213;refine HW.out.mono ?_;rintro e w1 ⟨rfl,rfl⟩)
 go_end0
 exact⟨rfl,rfl⟩
theorem a7x(w:World)(B gL nL b cL:Nat)(sv hv fv nv:Value)(x t:Int)
  (hB:w.heap[B]?=some (.cells (List.toArray (sv :: hv :: fv :: Y (some ⟨gL,0,none⟩) nL cL :: nv :: Xb.rs)) Xb.rt (0,0))) (hb:b<nL) (hn:nL<=1000) (c:w.cell? ⟨gL,b,none⟩=some (O J x)) (hx:(x==t)=false) :
  Calls Tryz.prog 207 #[.pointer (some ⟨B,0,none⟩),O J b,O J t] w fun e w'=>e=.returned (.tuple #[])/\w=w':=by
 have HW:Hid (Calls Tryz.prog 213 #[.pointer (some ⟨B,0,none⟩),O J b,O J t] w fun e w'=>e=.returned (.bool false)/\w=w'):=hx ▸ Iw w B gL nL b cL sv hv fv nv x t hB hb hn c
 obtain⟨q0,q1,q2,q3,q4,-,-,-,-,-,qs⟩:=boxf hB
 clear hB hx
 go_enter Tryz.func207,Tryz.ntmps207
 go_wp2_with (go_at_call 213;refine HW.out.mono ?_;rintro e w1 ⟨rfl,rfl⟩)
 go_end0
 exact⟨rfl,rfl⟩
def Oc(M:Mm)(b:Nat)(t:Int):Mm:=if Aj M b=-1 then Fq M b t else M
def Oh(M:Mm)(b:Nat)(t:Int):Mm:=if Aj M b=t then Fq M b (-1) else M
theorem Ve{M:Mm}{b:Nat}(hb:b<M.locks.length):Aj M b=M.locks[b]:=by simp[Aj,List.getD_eq_getElem?_getD,hb]
theorem Xy{M:Mm}{w:World}{B lo b:Nat}{Z:Nat->Prop}{aS aH aF:Option Addr}{gL cS cH cF cL:Nat}{t:Int}(m:Mine Xb w B lo aS aH aF (some ⟨gL,0,none⟩) cS cH cF cL M)(hf:∀ k,Foot B aS aH aF (some ⟨gL,0,none⟩) k->Z k) :
  Has Xb (w.setCell ⟨gL,b,none⟩ (O J t)) B lo (Up w Z) (Fq M b t)/\Fine w (w.setCell ⟨gL,b,none⟩ (O J t)) Z :=
 ⟨⟨_,_,_,_,_,_,_,_,m.setL b t,fun k hk=>.inl (hf k hk)⟩,(Fine.refl w Z).set (.inl (hf gL (.inr (.inr (.inr (.inr ⟨_,rfl,rfl⟩)))))) _ _⟩
theorem Tq{M:Mm}{w:World}{B lo b:Nat}{Z:Nat->Prop}(t:Int)(H:Has Xb w B lo Z M)(hM:Ok M)(hb:b<M.heads.length) :
  Calls Tryz.prog 205 #[.pointer (some ⟨B,0,none⟩),O J b,O J t] w fun e w'=>e=.returned (.bool (Aj M b == -1))/\Has Xb w' B lo (Up w Z) (Oc M b t)/\Fine w w' Z:=by
 have hl:=hM.nl
 have hh:=hM.nh.2
 have H':=H
 obtain⟨aS,aH,aF,aL,cS,cH,cF,cL,m,hf⟩:=H
 obtain⟨gL,rfl,oL,lL,-,-⟩:=C9 m.c.l (by omega)
 obtain⟨c,fz⟩:=J5 m.c.l (j:=b) (by omega)
 rw[<- Ve (by omega)] at c
 unfold Oc
 by_cases h:Aj M b=-1
 ·rw[h] at c ⊢
  refine(lock_yes w B gL _ b cL _ _ _ _ t m.box (by omega) (by omega) c fz).mono ?_
  rintro e w' ⟨rfl,rfl⟩
  rw[if_pos rfl]
  exact⟨rfl,Xy m hf⟩
 ·have hx:(Aj M b == -1)=false:=by simpa using h
  rw[hx,if_neg h]
  refine(lock_no w B gL _ b cL _ _ _ _ _ t m.box (by omega) (by omega) c hx).mono ?_
  rintro e w' ⟨rfl,rfl⟩
  exact⟨rfl,H'.up,.refl _ _⟩
theorem Nq{M:Mm}{w:World}{B lo b:Nat}{Z:Nat->Prop}(t:Int)(H:Has Xb w B lo Z M)(hM:Ok M)(hb:b<M.heads.length) :
  Calls Tryz.prog 207 #[.pointer (some ⟨B,0,none⟩),O J b,O J t] w fun e w'=>e=.returned (.tuple #[])/\Has Xb w' B lo (Up w Z) (Oh M b t)/\Fine w w' Z:=by
 have hl:=hM.nl
 have hh:=hM.nh.2
 have H':=H
 obtain⟨aS,aH,aF,aL,cS,cH,cF,cL,m,hf⟩:=H
 obtain⟨gL,rfl,oL,lL,-,-⟩:=C9 m.c.l (by omega)
 obtain⟨c,fz⟩:=J5 m.c.l (j:=b) (by omega)
 rw[<- Ve (by omega)] at c
 unfold Oh
 by_cases h:Aj M b=t
 ·rw[h] at c
  refine(a3t w B gL _ b cL _ _ _ _ t m.box (by omega) (by omega) c fz).mono ?_
  rintro e w' ⟨rfl,rfl⟩
  rw[if_pos h]
  exact⟨rfl,Xy m hf⟩
 ·have hx:(Aj M b==t)=false:=by simpa using h
  rw[if_neg h]
  refine(a7x w B gL _ b cL _ _ _ _ _ t m.box (by omega) (by omega) c hx).mono ?_
  rintro e w' ⟨rfl,rfl⟩
  exact⟨rfl,H'.up,.refl _ _⟩
end
end Go.Proofs.YthhgoenomehobaaGreat.mm
