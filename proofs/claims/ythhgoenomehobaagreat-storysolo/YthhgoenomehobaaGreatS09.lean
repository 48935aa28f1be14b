/- Parts. -/
import Derived.Test.YthhgoenomehobaaGreatS02
import Derived.Laws.AppendOwnNone
import Derived.Deep.RegionLaw
import Derived.Deep.QuietTactic
import Derived.BigQuiet
import Derived.BigRegion
import Derived.Test.YthhgoenomehobaaGreatS03
import Derived.Test.YthhgoenomehobaaGreatS01
import Derived.Test.YthhgoenomehobaaGreatS08
import Derived.Lib.QuietBelow
namespace Go.Proofs.YthhgoenomehobaaGreat.mm
set_option maxRecDepth 100000
set_option linter.unusedVariables false
open Go.Value renaming int → O, slice → Y
open Go.IntKind renaming i64 → J
section
open Go.ChangeShapes Go.WideShapes Go.ChangeAt Go.RowKit Go.Joins
variable {Xb:Ex}
theorem Fine.Tz{w w1:World}{Z:Nat->Prop}{g:Nat}(h:Fine w w1 Z)(hk:Z g\/w.heap.size<=g)(o:Nat)(s:Sl):Fine w (mm.Tz w1 g o s) Z:=by
 unfold mm.Tz
 exact(((((h.set hk _ _).set hk _ _).set hk _ _).set hk _ _).set hk _ _).set hk _ _
theorem a7j{M:Mm}(hM:Ok M)(hF:0<M.free.length)(ka kb u:Int):∃ n j:Nat,∃ hn:M.free.length=n+1,∃ hj:j<M.slots.length,M.free[n]'(by omega)=j/\Eo M=j/\Hf M ka kb u = { M with slots:=M.slots.set j ⟨1,ka,kb,u,false,M.slots[j].next⟩,free:=M.free.take n }:=by
 have hl:=Sz hM (by omega)
 obtain⟨n,hn⟩:∃ n,M.free.length=n+1:=⟨M.free.length - 1,by omega⟩
 have hnF:n<M.free.length:=by omega
 have hlast:Eo M=M.free[n]:=by
  show M.free.getD (M.free.length - 1) 0=_
  rw[show M.free.length - 1=n by omega]
  simp[List.getD_eq_getElem?_getD,hnF]
 obtain⟨j,hj⟩:∃ j:Nat,Eo M=j:=⟨(Eo M).toNat,by omega⟩
 have hjS:j<M.slots.length:=by omega
 refine⟨n,j,hn,hjS,hlast.symm.trans hj,hj,?_⟩
 unfold Hf
 rw[hj,show M.free.length - 1=n by omega]
 simp[List.getD_eq_getElem?_getD,hjS]
theorem a9b{M:Mm}{w:World}{B lo:Nat}{Z:Nat->Prop}{ka kb u:Int}(H:Has Xb w B lo Z M)(hM:Ok M)(hF:0<M.free.length) :
  Calls Tryz.prog 203 #[.pointer (some ⟨B,0,none⟩),.agg #[O J ka,O J kb],O J u] w fun e w'=>e=.returned (.tuple #[O J (Eo M),.bool true])/\Has Xb w' B lo (Up w Z) (Hf M ka kb u)/\Fine w w' Z:=by
 obtain⟨aS,aH,aF,aL,cS,cH,cF,cL,m,hf⟩:=H
 obtain⟨n,j,hn,hjS,hFj,hj,hT⟩:=a7j hM hF ka kb u
 obtain⟨gS,rfl,oS,lS,-,-⟩:=Dc m.c.s (by omega)
 obtain⟨gF,rfl,oF,lF,kF,kF2⟩:=Dc m.c.f hF
 rw[hT,hj]
 refine(b7d w B lo gS gF n j cS cH cF cL aH aL M ka kb u m hn hjS hFj (by omega) kF2).mono ?_
 rintro e w' ⟨rfl,w1,hb1,rfl⟩
 have mp:=((m.below hb1).pop hn).Tz (j:=j) hjS ⟨1,ka,kb,u,false,M.slots[j].next⟩
 have kp:Fine w _ Z:=(((Fine.of_below Z hb1).set (k:=B) (.inl (hf _ (.inl rfl))) 2 (Y (some ⟨gF,0,none⟩) n cF))).Tz (.inl (hf gS (.inr (.inl ⟨_,rfl,rfl⟩)))) (j*6) ⟨1,ka,kb,u,false,M.slots[j].next⟩
 generalize mm.Tz (w1.setCell ⟨B,2,none⟩ (Y (some ⟨gF,0,none⟩) n cF)) gS (j*6) ⟨1,ka,kb,u,false,M.slots[j].next⟩=W at *
 have hb:Below W.heap.size W W.drew:=(Below.refl _ _).drew
 exact⟨rfl,⟨_,_,_,_,_,_,_,_,mp.below hb,fun k hk=>.inl (hf k hk)⟩,kp.below hb⟩
theorem a9d{M:Mm}{w:World}{B lo:Nat}{Z:Nat->Prop}{ka kb u:Int}(H:Has Xb w B lo Z M)(hF:M.free.length=0) :
  Calls Tryz.prog 203 #[.pointer (some ⟨B,0,none⟩),.agg #[O J ka,O J kb],O J u] w fun e w'=>e=.returned (.tuple #[O J 0,.bool false])/\Below w.heap.size w w':=by
 obtain⟨aS,aH,aF,aL,cS,cH,cF,cL,m,hf⟩:=H
 have hB:=m.box
 rw[hF] at hB
 exact b7e w B _ _ _ _ aF cF ka kb u hB
theorem b1f(M:Mm)(j b:Nat):J7 M j b=b1e M j b:=rfl
theorem a7l{M:Mm}{w:World}{B lo:Nat}{Z:Nat->Prop}{j b:Nat}(H:Has Xb w B lo Z M)(hM:Ok M)(hj:j<M.slots.length)(hb:b<M.heads.length) :
  Calls Tryz.prog 206 #[.pointer (some ⟨B,0,none⟩),O J b,O J j] w fun e w'=>e=.returned (.tuple #[])/\Has Xb w' B lo (Up w Z) (J7 M j b)/\Fine w w' Z:=by
 obtain⟨aS,aH,aF,aL,cS,cH,cF,cL,m,hf⟩:=H
 obtain⟨gS,rfl,oS,lS,-,-⟩:=Dc m.c.s (by omega)
 obtain⟨gH,rfl,oH,lH,-,-⟩:=Dc m.c.h (by omega)
 obtain⟨c0,c1,c2,c3,c4,c5,fz⟩:=H6 m.c.s hj
 obtain⟨ch,fh⟩:=Jk m.c.h hb
 have dj:gS≠gH:=fun e=>I5 m.c.s m.c.h (by first|decide|exact Ex.ne _ _ (by decide)) gS rfl (by rw[e];rfl)
 refine(b5p w B gS gH _ _ j b cS cH _ _ _ _ _ _ m.box hj hb hM.ns hM.nh.2 m.ne_s dj m.ne_h lS lH c4 c5 fz ch fh).mono ?_
 rintro e w' ⟨rfl,rfl⟩
 have hs:A7 M j=M.slots[j]:=Jc hj
 have hhd:Ar M b=M.heads[b]:=by simp[Ar,List.getD_eq_getElem?_getD,hb]
 rw[b1f]
 unfold b1e
 rw[hs,hhd]
 have h5:=Ym M.slots j hj M.heads[b]
 have h2:=a6n M.slots j hj M.heads[b] true
 rw[h5] at h2
 have m2:=((m.a1q (j*6+5) (O J M.heads[b]) _ h5).a1q (j*6+4) (.bool true) _ h2).setH b ((j:Int)+1)
 have zS:Z gS\/w.heap.size<=gS:=.inl (hf gS (.inr (.inl ⟨_,rfl,rfl⟩)))
 have zH:Z gH\/w.heap.size<=gH:=.inl (hf gH (.inr (.inr (.inl ⟨_,rfl,rfl⟩))))
 have k2:Fine w _ Z:=(((Fine.refl w Z).set zS (j*6+5) (O J M.heads[b])).set zS (j*6+4) (.bool true)).set zH b (O J ((j:Int)+1))
 generalize ((w.setCell ⟨gS,j*6+5,none⟩ (O J M.heads[b])).setCell ⟨gS,j*6+4,none⟩ (.bool true)).setCell ⟨gH,b,none⟩ (O J ((j:Int)+1))=W at *
 have hbl:Below W.heap.size W W.drew:=(Below.refl _ _).drew
 exact⟨rfl,⟨_,_,_,_,_,_,_,_,m2.below hbl,fun k hk=>.inl (hf k hk)⟩,k2.below hbl⟩
theorem Kq(w:World)(B gL nL b cL:Nat)(sv hv fv nv:Value)(x t:Int)
  (hB:w.heap[B]?=some (.cells (List.toArray (sv :: hv :: fv :: Y (some ⟨gL,0,none⟩) nL cL :: nv :: Xb.rs)) Xb.rt (0,0))) (hb:b<nL) (hn:nL<=1000) (c:w.cell? ⟨gL,b,none⟩=some (O J x)) :
  Calls Tryz.prog 213 #[.pointer (some ⟨B,0,none⟩),O J b,O J t] w fun e w'=>e=.returned (.bool (x==t))/\w=w':=by
 obtain⟨q0,q1,q2,q3,q4,-,-,-,-,-,qs⟩:=Aj hB
 have hw:inB (b:Int) 0 ((nL:Int) - 1)=true:=(Ai _ _ _).2 (by omega)
 have HW:Hid (∀ W:World,Calls Tryz.prog 85 #[O J (b:Int),O J 0,O J ((nL:Int) - 1)] W fun e w'=>e=.returned (.bool true)/\W=w'):=fun W=>hw ▸ Cm _ _ _ W
 clear hB hw
 go_enter Tryz.func213,Tryz.ntmps213
 go_wp2_with (go_at_call 85;refine(HW.out _).mono ?_;rintro e w1 ⟨rfl,rfl⟩)
 go_ret
 exact⟨rfl,rfl⟩
theorem b1m(w:World)(B gL nL b cL:Nat)(sv hv fv nv:Value)(t:Int)
  (hB:w.heap[B]?=some (.cells (List.toArray (sv :: hv :: fv :: Y (some ⟨gL,0,none⟩) nL cL :: nv :: Xb.rs)) Xb.rt (0,0))) (hb:b<nL) (hn:nL<=1000) (c:w.cell? ⟨gL,b,none⟩=some (O J (-1))) (fz:w.frozen? ⟨gL,b,none⟩=false) :
  Calls Tryz.prog 205 #[.pointer (some ⟨B,0,none⟩),O J b,O J t] w fun e w'=>e=.returned (.bool true)/\w.setCell ⟨gL,b,none⟩ (O J t)=w':=by
 have HW:Hid (Calls Tryz.prog 213 #[.pointer (some ⟨B,0,none⟩),O J b,O J (-1)] w fun e w'=>e=.returned (.bool true)/\w=w'):=Kq w B gL nL b cL sv hv fv nv (-1) (-1) hB hb hn c
 obtain⟨q0,q1,q2,q3,q4,-,-,-,-,-,qs⟩:=Aj hB
 clear hB
 go_enter Tryz.func205,Tryz.ntmps205
 go_wp2_with (go_at_call 213;refine HW.out.mono ?_;rintro e w1 ⟨rfl,rfl⟩)
 go_ret
 exact⟨rfl,rfl⟩
theorem b5t(w:World)(B gL nL b cL:Nat)(sv hv fv nv:Value)(x t:Int)
  (hB:w.heap[B]?=some (.cells (List.toArray (sv :: hv :: fv :: Y (some ⟨gL,0,none⟩) nL cL :: nv :: Xb.rs)) Xb.rt (0,0))) (hb:b<nL) (hn:nL<=1000) (c:w.cell? ⟨gL,b,none⟩=some (O J x)) (hx:(x == -1)=false) :
  Calls Tryz.prog 205 #[.pointer (some ⟨B,0,none⟩),O J b,O J t] w fun e w'=>e=.returned (.bool false)/\w=w':=by
 have HW:Hid (Calls Tryz.prog 213 #[.pointer (some ⟨B,0,none⟩),O J b,O J (-1)] w fun e w'=>e=.returned (.bool false)/\w=w'):=hx ▸ Kq w B gL nL b cL sv hv fv nv x (-1) hB hb hn c
 obtain⟨q0,q1,q2,q3,q4,-,-,-,-,-,qs⟩:=Aj hB
 clear hB hx
 go_enter Tryz.func205,Tryz.ntmps205
 go_wp2_with (go_at_call 213;refine HW.out.mono ?_;rintro e w1 ⟨rfl,rfl⟩)
 go_ret
 exact⟨rfl,rfl⟩
theorem a4m(w:World)(B gL nL b cL:Nat)(sv hv fv nv:Value)(t:Int)
  (hB:w.heap[B]?=some (.cells (List.toArray (sv :: hv :: fv :: Y (some ⟨gL,0,none⟩) nL cL :: nv :: Xb.rs)) Xb.rt (0,0))) (hb:b<nL) (hn:nL<=1000) (c:w.cell? ⟨gL,b,none⟩=some (O J t)) (fz:w.frozen? ⟨gL,b,none⟩=false) :
  Calls Tryz.prog 207 #[.pointer (some ⟨B,0,none⟩),O J b,O J t] w fun e w'=>e=.returned (.tuple #[])/\w.setCell ⟨gL,b,none⟩ (O J (-1))=w':=by
 have HW:Hid (Calls Tryz.prog 213 #[.pointer (some ⟨B,0,none⟩),O J b,O J t] w fun e w'=>e=.returned (.bool true)/\w=w'):=(show (t==t)=true by simp) ▸ Kq w B gL nL b cL sv hv fv nv t t hB hb hn c
 obtain⟨q0,q1,q2,q3,q4,-,-,-,-,-,qs⟩:=Aj hB
 clear hB
 go_enter Tryz.func207,Tryz.ntmps207
 go_wp2_with (go_at_call 213;refine HW.out.mono ?_;rintro e w1 ⟨rfl,rfl⟩)
 go_end0
 exact⟨rfl,rfl⟩
theorem a9i(w:World)(B gL nL b cL:Nat)(sv hv fv nv:Value)(x t:Int)
  (hB:w.heap[B]?=some (.cells (List.toArray (sv :: hv :: fv :: Y (some ⟨gL,0,none⟩) nL cL :: nv :: Xb.rs)) Xb.rt (0,0))) (hb:b<nL) (hn:nL<=1000) (c:w.cell? ⟨gL,b,none⟩=some (O J x)) (hx:(x==t)=false) :
  Calls Tryz.prog 207 #[.pointer (some ⟨B,0,none⟩),O J b,O J t] w fun e w'=>e=.returned (.tuple #[])/\w=w':=by
 have HW:Hid (Calls Tryz.prog 213 #[.pointer (some ⟨B,0,none⟩),O J b,O J t] w fun e w'=>e=.returned (.bool false)/\w=w'):=hx ▸ Kq w B gL nL b cL sv hv fv nv x t hB hb hn c
 obtain⟨q0,q1,q2,q3,q4,-,-,-,-,-,qs⟩:=Aj hB
 clear hB hx
 go_enter Tryz.func207,Tryz.ntmps207
 go_wp2_with (go_at_call 213;refine HW.out.mono ?_;rintro e w1 ⟨rfl,rfl⟩)
 go_end0
 exact⟨rfl,rfl⟩
def N8(M:Mm)(b:Nat)(t:Int):Mm:=if Ak M b=-1 then Bh M b t else M
def N9(M:Mm)(b:Nat)(t:Int):Mm:=if Ak M b=t then Bh M b (-1) else M
theorem Xd{M:Mm}{b:Nat}(hb:b<M.locks.length):Ak M b=M.locks[b]:=by simp[Ak,List.getD_eq_getElem?_getD,hb]
theorem Yt{M:Mm}{w:World}{B lo b:Nat}{Z:Nat->Prop}{aS aH aF:Option Addr}{gL cS cH cF cL:Nat}{t:Int}(m:Mine Xb w B lo aS aH aF (some ⟨gL,0,none⟩) cS cH cF cL M)(hf:∀ k,A8 B aS aH aF (some ⟨gL,0,none⟩) k->Z k) :
  Has Xb (w.setCell ⟨gL,b,none⟩ (O J t)) B lo (Up w Z) (Bh M b t)/\Fine w (w.setCell ⟨gL,b,none⟩ (O J t)) Z :=
 ⟨⟨_,_,_,_,_,_,_,_,m.Xl b t,fun k hk=>.inl (hf k hk)⟩,(Fine.refl w Z).set (.inl (hf gL (.inr (.inr (.inr (.inr ⟨_,rfl,rfl⟩)))))) _ _⟩
theorem Uc{M:Mm}{w:World}{B lo b:Nat}{Z:Nat->Prop}(t:Int)(H:Has Xb w B lo Z M)(hM:Ok M)(hb:b<M.heads.length) :
  Calls Tryz.prog 205 #[.pointer (some ⟨B,0,none⟩),O J b,O J t] w fun e w'=>e=.returned (.bool (Ak M b == -1))/\Has Xb w' B lo (Up w Z) (N8 M b t)/\Fine w w' Z:=by
 have hl:=hM.nl
 have hh:=hM.nh.2
 have H':=H
 obtain⟨aS,aH,aF,aL,cS,cH,cF,cL,m,hf⟩:=H
 obtain⟨gL,rfl,oL,lL,-,-⟩:=Dc m.c.l (by omega)
 obtain⟨c,fz⟩:=Jk m.c.l (j:=b) (by omega)
 rw[<- Xd (by omega)] at c
 unfold N8
 by_cases h:Ak M b=-1
 ·rw[h] at c ⊢
  refine(b1m w B gL _ b cL _ _ _ _ t m.box (by omega) (by omega) c fz).mono ?_
  rintro e w' ⟨rfl,rfl⟩
  rw[if_pos rfl]
  exact⟨rfl,Yt m hf⟩
 ·have hx:(Ak M b == -1)=false:=by simpa using h
  rw[hx,if_neg h]
  refine(b5t w B gL _ b cL _ _ _ _ _ t m.box (by omega) (by omega) c hx).mono ?_
  rintro e w' ⟨rfl,rfl⟩
  exact⟨rfl,H'.up,.refl _ _⟩
theorem Pm{M:Mm}{w:World}{B lo b:Nat}{Z:Nat->Prop}(t:Int)(H:Has Xb w B lo Z M)(hM:Ok M)(hb:b<M.heads.length) :
  Calls Tryz.prog 207 #[.pointer (some ⟨B,0,none⟩),O J b,O J t] w fun e w'=>e=.returned (.tuple #[])/\Has Xb w' B lo (Up w Z) (N9 M b t)/\Fine w w' Z:=by
 have hl:=hM.nl
 have hh:=hM.nh.2
 have H':=H
 obtain⟨aS,aH,aF,aL,cS,cH,cF,cL,m,hf⟩:=H
 obtain⟨gL,rfl,oL,lL,-,-⟩:=Dc m.c.l (by omega)
 obtain⟨c,fz⟩:=Jk m.c.l (j:=b) (by omega)
 rw[<- Xd (by omega)] at c
 unfold N9
 by_cases h:Ak M b=t
 ·rw[h] at c
  refine(a4m w B gL _ b cL _ _ _ _ t m.box (by omega) (by omega) c fz).mono ?_
  rintro e w' ⟨rfl,rfl⟩
  rw[if_pos h]
  exact⟨rfl,Yt m hf⟩
 ·have hx:(Ak M b==t)=false:=by simpa using h
  rw[if_neg h]
  refine(a9i w B gL _ b cL _ _ _ _ _ t m.box (by omega) (by omega) c hx).mono ?_
  rintro e w' ⟨rfl,rfl⟩
  exact⟨rfl,H'.up,.refl _ _⟩
end
section
open Go.ChangeShapes Go.WideShapes Go.ChangeAt Go.RowKit Go.Joins Go.Deep Go.Sort
variable {Xb:Ex}
theorem Lk.two{w w1:World}{B lo:Nat}{aS aH aF aL:Option Addr}{cS cH cF cL:Nat}{M:Mm}{f:Fr}{aK:Option Addr}{cK:Nat}(h:Lk Xb w w1 B lo aS aH aF aL cS cH cF cL M f aK cK):Lk2 Xb w w1 (A8 B aS aH aF aL) B lo M f aK cK :=
 ⟨h.lt,.of_below _ h.bl,⟨_,_,_,_,_,_,_,_,h.m,fun k hk=>.inl hk⟩,h.fb,h.zb⟩
theorem a0a{w w9:World}{o:Obj}(hb:Below ((w.alloc o).alloc Ac).heap.size ((w.alloc o).alloc Ac) w9):Below w.heap.size w w9/\w9.heap[w.heap.size+1]?=some Ac:=by
 have h0:((w.alloc o).alloc Ac).heap[w.heap.size+1]?=some Ac:=by
  have:=heap_alloc_new (w.alloc o) Ac
  simpa using this
 exact⟨(below_alloc2 w o Ac).trans (hb.mono (below_alloc2 w o Ac).size),(hb.block _ (lt_of_block h0)).trans h0⟩
theorem Tc(f:Fr)(aK:Option Addr)(cK:Nat)(w:World) :
  Calls Tryz.prog 180 #[.agg #[O J f.c.kind,O J f.c.a,O J f.c.b,O J f.c.time,O J f.c.bk,O J f.c.slot,O J f.pl,O J f.cur,O J f.prev,O J f.slot,O J f.n,Y aK f.keys.length cK,.bool f.done,O J f.e]] w fun e w'=>e=.returned (.agg #[O J (Am f).c.kind,O J (Am f).c.a,O J (Am f).c.b,O J (Am f).c.time,O J (Am f).c.bk,O J (Am f).c.slot,O J (Am f).pl,O J (Am f).cur,O J (Am f).prev,O J (Am f).slot,O J (Am f).n,Y aK (Am f).keys.length cK,.bool (Am f).done,O J (Am f).e])/\Below w.heap.size w w':=by
 go_enter Tryz.func180,Tryz.ntmps180
 go_wp2_with fail
 refine(Cc { f with e:=8 } 7 aK cK _).mono ?_
 rintro e w9 ⟨rfl,hb9⟩
 have HE9:Hid (Below w.heap.size w w9/\w9.heap[w.heap.size+1]?=some Ac):=a0a hb9
 clear hb9
 obtain⟨g0,g1,g2,g3,g4,g5,g6,g7,g8,g9,g10,g11,g12,g13,gf,gs⟩:=Aa HE9.out.2
 go_wp2
 refine bodyPost_ret (v:=.agg #[O J (Am f).c.kind,O J (Am f).c.a,O J (Am f).c.b,O J (Am f).c.time,O J (Am f).c.bk,O J (Am f).c.slot,O J (Am f).pl,O J (Am f).cur,O J (Am f).prev,O J (Am f).slot,O J (Am f).n,Y aK (Am f).keys.length cK,.bool (Am f).done,O J (Am f).e]) (by simp[results,Tryz.results180,go_sem,Am,toF,g0,g1,g2,g3,g4,g5,g6,g7,g8,g9,g10,g11,g12,g13]) rfl ⟨rfl,Gj HE9.out.1⟩
theorem Zb(now time:Int)(w:World)(h0:0<=now)(h1:now<=1000000)(h2:1<=time)(h3:time<=1000000) :
  Calls Tryz.prog 204 #[O J now,O J time] w fun e w'=>e=.returned (O J (now+time))/\w=w':=by
 have e1:decide (0<time)=true:=by rw[decide_eq_true_iff];omega
 have e2:¬ (2000000 - time<now):=by omega
 have e3:¬ (2000000<now+time):=by omega
 go_enter Tryz.func204,Tryz.ntmps204
 go_wp2
 go_ret
 exact⟨rfl,rfl⟩
set_option maxHeartbeats 3200000 in
theorem a9q(M:Mm)(f:Fr)(B lo:Nat)(aS aH aF aL:Option Addr)(cS cH cF cL:Nat)(aK:Option Addr)(cK:Nat)(w:World)
  (m:Mine Xb w B lo aS aH aF aL cS cH cF cL M) (hM:Ok M) (hf:Fit M f) (r:Ag w aK cK f.keys) (hz:∀ ad,aK=some ad->¬ A8 B aS aH aF aL ad.block) :
  Calls Tryz.prog 174 #[.pointer (some ⟨B,0,none⟩),.agg #[O J f.c.kind,O J f.c.a,O J f.c.b,O J f.c.time,O J f.c.bk,O J f.c.slot,O J f.pl,O J f.cur,O J f.prev,O J f.slot,O J f.n,Y aK f.keys.length cK,.bool f.done,O J f.e]] w fun e w'=>Ret w w' e (Bl f (Ar M (bkN M f)) 3) aK cK/\Has Xb w' B lo (Up w (A8 B aS aH aF aL)) (M)/\Fine w w' (A8 B aS aH aF aL):=by
 have hns:=hM.ns
 have hnh:=hM.nh.2
 have hcur:=hf.cur.2
 have hc1:f.cur<=1000:=by omega
 have hn1:M.slots.length<=1000:=by omega
 have HOk:Hid (Ok M):=hM
 have HR:Hid (Ag w aK cK f.keys):=r
 obtain⟨b0,b1⟩:=Ej hM hf.call
 obtain⟨b,hb⟩:∃ b:Nat,G7 M.heads.length f.c=b:=⟨_,(Int.toNat_of_nonneg b0).symm⟩
 have hbl:b<M.heads.length:=by omega
 obtain⟨gH,rfl,oH,lH,-,-⟩:=Dc m.c.h (by omega)
 obtain⟨x,hx⟩:∃ x,x=M.heads[b]:=⟨_,rfl⟩
 have hhd:Ar M (bkN M f)=x:=by unfold bkN;rw[hb,hx];simp[Ar,List.getD_eq_getElem?_getD,hbl]
 rw[hhd]
 have HX:Hid (∀ W,Mine Xb W B lo aS (some ⟨gH,0,none⟩) aF aL cS cH cF cL M->W.cell? ⟨gH,b,none⟩=some (O J x)):=fun W m'=>by rw[hx];exact(Jk m'.c.h hbl).1
 have HBk:Hid (∀ W:World,Calls Tryz.prog 34 #[.agg #[Y aS M.slots.length cS,Y (some ⟨gH,0,none⟩) M.heads.length cH,Y aF M.free.length cF,Y aL M.locks.length cL,O J M.now],.agg #[O J f.c.kind,O J f.c.a,O J f.c.b,O J f.c.time,O J f.c.bk,O J f.c.slot]] W fun e w'=>e=.returned (O J (b:Int))/\Below W.heap.size W w'):=fun W=>hb ▸ Dk _ _ _ _ _ _ _ _ cS cH cF cL M.now f.c W (by omega)
 have HCh:Hid (∀ W:World,Calls Tryz.prog 97 #[.agg #[Y aS M.slots.length cS,Y (some ⟨gH,0,none⟩) M.heads.length cH,Y aF M.free.length cF,Y aL M.locks.length cL,O J M.now],O J (b:Int)] W fun e w'=>e=.returned (.bool true)/\Below W.heap.size W w'):=fun W=>(show inB (b:Int) 0 ((M.heads.length:Int) - 1)=true from (Ai _ _ _).2 (by omega)) ▸ Hq _ _ _ _ _ _ _ _ cS cH cF cL M.now (b:Int) W (by omega)
 have HZ:Hid (∀ ad,aK=some ad->¬ (A8 B aS (some ⟨gH,0,none⟩) aF aL) ad.block):=hz
 obtain⟨of,hof⟩:=frObj f aK cK
 obtain⟨oz,hoz⟩:∃ o:Obj,o=Ac:=⟨_,rfl⟩
 have HE:Hid (Lk Xb w ((w.alloc of).alloc oz) B lo aS (some ⟨gH,0,none⟩) aF aL cS cH cF cL M f aK cK):=Lk.first m f aK cK hof hoz
 obtain⟨q0,q1,q2,q3,q4,-,-,-,-,-,qs⟩:=Aj HE.out.m.box
 obtain⟨f0,f1,f2,f3,f4,f5,f6,f7,f8,f9,f10,f11,f12,f13,ff,fs⟩:=Aa HE.out.fb
 unfold Ac at hoz
 clear m hc1 hn1 hcur hns hnh hM hf r hz hx hhd hb b0 b1 oH lH
 go_enter Tryz.func174,Tryz.ntmps174
 go_wp2_with fail
 rw[<- hof,<- hoz]
 generalize (w.alloc of).alloc oz=W0 at *
 subst hof hoz
 have cB:∀ (d:Nat) (os:Array Obj),Calls Tryz.prog 34 #[.agg #[Y aS M.slots.length cS,Y (some ⟨gH,0,none⟩) M.heads.length cH,Y aF M.free.length cF,Y aL M.locks.length cL,O J M.now],.agg #[O J f.c.kind,O J f.c.a,O J f.c.b,O J f.c.time,O J f.c.bk,O J f.c.slot]] (grow (redrawn W0 d) os) fun e w''=>e=.returned (O J (b:Int))/\∃ p:Regrown,w''=grow (redrawn W0 p.d) p.os:=fun d os=>Calls.regrown_of (HBk.out _)
 have Xq0:=cell_regrown q0
 have Xq1:=cell_regrown q1
 have Xq2:=cell_regrown q2
 have Xq3:=cell_regrown q3
 have Xq4:=cell_regrown q4
 have Xf0:=cell_regrown f0
 have Xf1:=cell_regrown f1
 have Xf2:=cell_regrown f2
 have Xf3:=cell_regrown f3
 have Xf4:=cell_regrown f4
 have Xf5:=cell_regrown f5
 clear q0 q1 q2 q3 q4 qs
 clear f0 f1 f2 f3 f4 f5 f6 f7 f8 f9 f10 f11 f12 f13 ff fs
 refine wp_region_quiet_below (by kernel_rfl) (by kernel_rfl) ?_
 repeat (quiet_step (first|exact cB _ _))
 refine wpQuiet_nil ?_
 intro _ hw'
 obtain⟨⟨dq,osq⟩,hw''⟩:=hw'
 subst hw''
 have HE1:Hid (Lk Xb w (grow (redrawn W0 dq) osq) B lo aS (some ⟨gH,0,none⟩) aF aL cS cH cF cL M f aK cK):=HE.out.below (below_regrown W0 dq osq)
 generalize grow (redrawn W0 dq) osq=w1 at *
 clear Xq0 Xq1 Xq2 Xq3 Xq4 Xf0 Xf1 Xf2 Xf3 Xf4 Xf5 HE
 clear cB
 obtain⟨q0,q1,q2,q3,q4,-,-,-,-,-,qs⟩:=Aj HE1.out.m.box
 go_wp2_with fail
 refine(HCh.out w1).mono ?_
 rintro e w2 ⟨rfl,hb2⟩
 have HE2:Hid (Lk Xb w w2 B lo aS (some ⟨gH,0,none⟩) aF aL cS cH cF cL M f aK cK):=HE1.out.below hb2
 clear HE1 hb2
 clear q0 q1 q2 q3 q4 qs
 obtain⟨q0,q1,q2,q3,q4,-,-,-,-,-,qs⟩:=Aj HE2.out.m.box
 obtain⟨f0,f1,f2,f3,f4,f5,f6,f7,f8,f9,f10,f11,f12,f13,ff,fs⟩:=Aa HE2.out.fb
 have hc:=HX.out w2 HE2.out.m
 go_wp2_with fail
 have HE3:Hid (Lk2 Xb w _ (A8 B aS (some ⟨gH,0,none⟩) aF aL) B lo M { f with cur:=x } aK cK):=(HE2.out.store 7 (O J x) { f with cur:=x } rfl).two
 clear hc HE2
 clear q0 q1 q2 q3 q4 qs
 refine(Cc { f with cur:=x } 3 aK cK _).mono ?_
 rintro e w9 ⟨rfl,hb9⟩
 have HE9:Hid (Lk2 Xb w w9 (A8 B aS (some ⟨gH,0,none⟩) aF aL) B lo M { f with cur:=x } aK cK):=HE3.out.below hb9
 clear HE3 hb9
 clear f0 f1 f2 f3 f4 f5 f6 f7 f8 f9 f10 f11 f12 f13 ff fs
 obtain⟨g0,g1,g2,g3,g4,g5,g6,g7,g8,g9,g10,g11,g12,g13,gf,gs⟩:=Aa HE9.out.zb
 go_wp2
 refine bodyPost_ret (v:=.agg #[O J (Bl f x 3).c.kind,O J (Bl f x 3).c.a,O J (Bl f x 3).c.b,O J (Bl f x 3).c.time,O J (Bl f x 3).c.bk,O J (Bl f x 3).c.slot,O J (Bl f x 3).pl,O J (Bl f x 3).cur,O J (Bl f x 3).prev,O J (Bl f x 3).slot,O J (Bl f x 3).n,Y aK (Bl f x 3).keys.length cK,.bool (Bl f x 3).done,O J (Bl f x 3).e]) (by simp[results,Tryz.results174,go_sem,Bl,toF,g0,g1,g2,g3,g4,g5,g6,g7,g8,g9,g10,g11,g12,g13]) rfl ⟨⟨aK,cK,rfl,HR.out.fine HE9.out.Ah.2 HZ.out,(fun ad h=>.inl h),fun _=>⟨rfl,rfl⟩⟩,HE9.out.Ah⟩
set_option maxHeartbeats 3200000 in
theorem b8c(M:Mm)(f:Fr)(B lo:Nat)(aS aH aF aL:Option Addr)(cS cH cF cL:Nat)(aK:Option Addr)(cK:Nat)(w:World)
  (m:Mine Xb w B lo aS aH aF aL cS cH cF cL M) (hM:Ok M) (hf:Fit M f) (r:Ag w aK cK f.keys) (hz:∀ ad,aK=some ad->¬ A8 B aS aH aF aL ad.block) :
  Calls Tryz.prog 175 #[.pointer (some ⟨B,0,none⟩),.agg #[O J f.c.kind,O J f.c.a,O J f.c.b,O J f.c.time,O J f.c.bk,O J f.c.slot,O J f.pl,O J f.cur,O J f.prev,O J f.slot,O J f.n,Y aK f.keys.length cK,.bool f.done,O J f.e]] w fun e w'=>Ret w w' e (Lu M f) aK cK/\Has Xb w' B lo (Up w (A8 B aS aH aF aL)) (M)/\Fine w w' (A8 B aS aH aF aL):=by
 have hns:=hM.ns
 have hnh:=hM.nh.2
 have hcur:=hf.cur.2
 have hc1:f.cur<=1000:=by omega
 have hn1:M.slots.length<=1000:=by omega
 have HOk:Hid (Ok M):=hM
 have HR:Hid (Ag w aK cK f.keys):=r
 by_cases hat:D7 M f=true
 ·have h1:=Bv.1 hat
  obtain⟨j,hj⟩:∃ j:Nat,f.cur - 1=j:=⟨(f.cur - 1).toNat,by omega⟩
  have hjl:j<M.slots.length:=by omega
  obtain⟨gS,rfl,oS,lS,kS,-⟩:=Dc m.c.s (by omega)
  obtain⟨s,hs⟩:∃ s,s=A7 M (j:Int):=⟨_,rfl⟩
  have hst:stN f=j:=by unfold stN;rw[if_neg (by omega)];exact hj
  have hres:Lu M f=toF f (if lkK s f then 6 else 4):=by unfold Lu;rw[if_pos hat,hj,<- hs]
  rw[hres]
  have HSt:Hid (∀ (W:World),Lk Xb w W B lo (some ⟨gS,0,none⟩) aH aF aL cS cH cF cL M f aK cK->Calls Tryz.prog 200 #[.pointer (some ⟨B,0,none⟩),.agg #[O J f.c.kind,O J f.c.a,O J f.c.b,O J f.c.time,O J f.c.bk,O J f.c.slot,O J f.pl,O J f.cur,O J f.prev,O J f.slot,O J f.n,Y aK f.keys.length cK,.bool f.done,O J f.e]] W fun e w'=>e=.returned (.tuple #[O J ((j:Int)),.bool true])/\Lk Xb w w' B lo (some ⟨gS,0,none⟩) aH aF aL cS cH cF cL M f aK cK):=fun W h=>by
   have:=Bo M f B _ _ _ _ cS cH cF cL aK cK W h.m.box hc1 hn1
   rw[hst,hat] at this
   exact this.mono (fun e w' h'=>⟨h'.1,h.below h'.2⟩)
  have HX:Hid (∀ W,Mine Xb W B lo (some ⟨gS,0,none⟩) aH aF aL cS cH cF cL M->W.cell? ⟨gS,j*6+1,none⟩=some (O J s.a)/\W.cell? ⟨gS,j*6+2,none⟩=some (O J s.b)/\W.cell? ⟨gS,j*6+5,none⟩=some (O J s.next)):=fun W m'=>⟨(Bd m'.c.s hjl hs).2.1,(Bd m'.c.s hjl hs).2.2.1,(Bd m'.c.s hjl hs).2.2.2.2.2.1⟩
  cases hk:lkK s f
  ·show Calls Tryz.prog 175 _ w fun e w'=>Ret w w' e (toF f 4) aK cK/\Has Xb w' B lo (Up w (A8 B (some ⟨gS,0,none⟩) aH aF aL)) (M)/\Fine w w' (A8 B (some ⟨gS,0,none⟩) aH aF aL)
   have se:∀ W:World,(Op.equalIn 10000 30 (.agg #[O J s.a,O J s.b]) (.agg #[O J f.c.a,O J f.c.b])).run Tryz.prog W=.ok false W:=fun W=>by rw[P6];exact congrArg (fun b=>Result.ok b W) hk
   have HZ:Hid (∀ ad,aK=some ad->¬ (A8 B (some ⟨gS,0,none⟩) aH aF aL) ad.block):=hz
   obtain⟨of,hof⟩:=frObj f aK cK
   obtain⟨oz,hoz⟩:∃ o:Obj,o=Ac:=⟨_,rfl⟩
   have HE:Hid (Lk Xb w ((w.alloc of).alloc oz) B lo (some ⟨gS,0,none⟩) aH aF aL cS cH cF cL M f aK cK):=Lk.first m f aK cK hof hoz
   obtain⟨q0,q1,q2,q3,q4,-,-,-,-,-,qs⟩:=Aj HE.out.m.box
   obtain⟨f0,f1,f2,f3,f4,f5,f6,f7,f8,f9,f10,f11,f12,f13,ff,fs⟩:=Aa HE.out.fb
   unfold Ac at hoz
   clear m hc1 hn1 hcur hns hnh hM hf r hz hk hres hs hst hat h1
   go_enter Tryz.func175,Tryz.ntmps175
   go_wp2_with fail
   rw[<- hof,<- hoz]
   generalize (w.alloc of).alloc oz=W0 at *
   subst hof hoz
   clear q0 q1 q2 q3 q4 qs
   clear f0 f1 f2 f3 f4 f5 f6 f7 f8 f9 f10 f11 f12 f13 ff fs
   refine(HSt.out _ (by exact HE.out.below ⟨rfl,rfl,rfl,Nat.le_refl _,fun _ _=>rfl⟩)).mono ?_
   rintro e w1 ⟨rfl,h9⟩
   have HE1:Hid (Lk Xb w w1 B lo (some ⟨gS,0,none⟩) aH aF aL cS cH cF cL M f aK cK):=h9
   clear HE h9
   obtain⟨q0,q1,q2,q3,q4,-,-,-,-,-,qs⟩:=Aj HE1.out.m.box
   obtain⟨f0,f1,f2,f3,f4,f5,f6,f7,f8,f9,f10,f11,f12,f13,ff,fs⟩:=Aa HE1.out.fb
   obtain⟨x1,x2,x5⟩:=HX.out w1 HE1.out.m
   go_wp2_with fail
   go_quiet (fail)
   go_wp2_with fail
   have HE2:Hid (Lk2 Xb w (w1.drewN nq) (A8 B (some ⟨gS,0,none⟩) aH aF aL) B lo M f aK cK):=(HE1.out.below (w2:=w1.drewN nq) ⟨rfl,rfl,rfl,Nat.le_refl _,fun _ _=>rfl⟩).two
   clear HE1 x1 x2 x5
   clear q0 q1 q2 q3 q4 qs
   refine(Cc f 4 aK cK _).mono ?_
   rintro e w9 ⟨rfl,hb9⟩
   have HE9:Hid (Lk2 Xb w w9 (A8 B (some ⟨gS,0,none⟩) aH aF aL) B lo M f aK cK):=HE2.out.below hb9
   clear HE2 hb9
   clear f0 f1 f2 f3 f4 f5 f6 f7 f8 f9 f10 f11 f12 f13 ff fs
   obtain⟨g0,g1,g2,g3,g4,g5,g6,g7,g8,g9,g10,g11,g12,g13,gf,gs⟩:=Aa HE9.out.zb
   go_wp2
   refine bodyPost_ret (v:=.agg #[O J (toF f 4).c.kind,O J (toF f 4).c.a,O J (toF f 4).c.b,O J (toF f 4).c.time,O J (toF f 4).c.bk,O J (toF f 4).c.slot,O J (toF f 4).pl,O J (toF f 4).cur,O J (toF f 4).prev,O J (toF f 4).slot,O J (toF f 4).n,Y aK (toF f 4).keys.length cK,.bool (toF f 4).done,O J (toF f 4).e]) (by simp[results,Tryz.results175,go_sem,toF,g0,g1,g2,g3,g4,g5,g6,g7,g8,g9,g10,g11,g12,g13]) rfl ⟨⟨aK,cK,rfl,HR.out.fine HE9.out.Ah.2 HZ.out,(fun ad h=>.inl h),fun _=>⟨rfl,rfl⟩⟩,HE9.out.Ah⟩
  ·show Calls Tryz.prog 175 _ w fun e w'=>Ret w w' e (toF f 6) aK cK/\Has Xb w' B lo (Up w (A8 B (some ⟨gS,0,none⟩) aH aF aL)) (M)/\Fine w w' (A8 B (some ⟨gS,0,none⟩) aH aF aL)
   have se:∀ W:World,(Op.equalIn 10000 30 (.agg #[O J s.a,O J s.b]) (.agg #[O J f.c.a,O J f.c.b])).run Tryz.prog W=.ok true W:=fun W=>by rw[P6];exact congrArg (fun b=>Result.ok b W) hk
   have HZ:Hid (∀ ad,aK=some ad->¬ (A8 B (some ⟨gS,0,none⟩) aH aF aL) ad.block):=hz
   obtain⟨of,hof⟩:=frObj f aK cK
   obtain⟨oz,hoz⟩:∃ o:Obj,o=Ac:=⟨_,rfl⟩
   have HE:Hid (Lk Xb w ((w.alloc of).alloc oz) B lo (some ⟨gS,0,none⟩) aH aF aL cS cH cF cL M f aK cK):=Lk.first m f aK cK hof hoz
   obtain⟨q0,q1,q2,q3,q4,-,-,-,-,-,qs⟩:=Aj HE.out.m.box
   obtain⟨f0,f1,f2,f3,f4,f5,f6,f7,f8,f9,f10,f11,f12,f13,ff,fs⟩:=Aa HE.out.fb
   unfold Ac at hoz
   clear m hc1 hn1 hcur hns hnh hM hf r hz hk hres hs hst hat h1
   go_enter Tryz.func175,Tryz.ntmps175
   go_wp2_with fail
   rw[<- hof,<- hoz]
   generalize (w.alloc of).alloc oz=W0 at *
   subst hof hoz
   clear q0 q1 q2 q3 q4 qs
   clear f0 f1 f2 f3 f4 f5 f6 f7 f8 f9 f10 f11 f12 f13 ff fs
   refine(HSt.out _ (by exact HE.out.below ⟨rfl,rfl,rfl,Nat.le_refl _,fun _ _=>rfl⟩)).mono ?_
   rintro e w1 ⟨rfl,h9⟩
   have HE1:Hid (Lk Xb w w1 B lo (some ⟨gS,0,none⟩) aH aF aL cS cH cF cL M f aK cK):=h9
   clear HE h9
   obtain⟨q0,q1,q2,q3,q4,-,-,-,-,-,qs⟩:=Aj HE1.out.m.box
   obtain⟨f0,f1,f2,f3,f4,f5,f6,f7,f8,f9,f10,f11,f12,f13,ff,fs⟩:=Aa HE1.out.fb
   obtain⟨x1,x2,x5⟩:=HX.out w1 HE1.out.m
   go_wp2_with fail
   go_quiet (fail)
   go_wp2_with fail
   have HE2:Hid (Lk2 Xb w (w1.drewN nq) (A8 B (some ⟨gS,0,none⟩) aH aF aL) B lo M f aK cK):=(HE1.out.below (w2:=w1.drewN nq) ⟨rfl,rfl,rfl,Nat.le_refl _,fun _ _=>rfl⟩).two
   clear HE1 x1 x2 x5
   clear q0 q1 q2 q3 q4 qs
   refine(Cc f 6 aK cK _).mono ?_
   rintro e w9 ⟨rfl,hb9⟩
   have HE9:Hid (Lk2 Xb w w9 (A8 B (some ⟨gS,0,none⟩) aH aF aL) B lo M f aK cK):=HE2.out.below hb9
   clear HE2 hb9
   clear f0 f1 f2 f3 f4 f5 f6 f7 f8 f9 f10 f11 f12 f13 ff fs
   obtain⟨g0,g1,g2,g3,g4,g5,g6,g7,g8,g9,g10,g11,g12,g13,gf,gs⟩:=Aa HE9.out.zb
   go_wp2
   refine bodyPost_ret (v:=.agg #[O J (toF f 6).c.kind,O J (toF f 6).c.a,O J (toF f 6).c.b,O J (toF f 6).c.time,O J (toF f 6).c.bk,O J (toF f 6).c.slot,O J (toF f 6).pl,O J (toF f 6).cur,O J (toF f 6).prev,O J (toF f 6).slot,O J (toF f 6).n,Y aK (toF f 6).keys.length cK,.bool (toF f 6).done,O J (toF f 6).e]) (by simp[results,Tryz.results175,go_sem,toF,g0,g1,g2,g3,g4,g5,g6,g7,g8,g9,g10,g11,g12,g13]) rfl ⟨⟨aK,cK,rfl,HR.out.fine HE9.out.Ah.2 HZ.out,(fun ad h=>.inl h),fun _=>⟨rfl,rfl⟩⟩,HE9.out.Ah⟩
 ·have hat0:D7 M f=false:=by simpa using hat
  have hres:Lu M f=toF f 5:=by unfold Lu;rw[if_neg hat]
  rw[hres]
  have HSt:Hid (∀ (W:World),Lk Xb w W B lo aS aH aF aL cS cH cF cL M f aK cK->Calls Tryz.prog 200 #[.pointer (some ⟨B,0,none⟩),.agg #[O J f.c.kind,O J f.c.a,O J f.c.b,O J f.c.time,O J f.c.bk,O J f.c.slot,O J f.pl,O J f.cur,O J f.prev,O J f.slot,O J f.n,Y aK f.keys.length cK,.bool f.done,O J f.e]] W fun e w'=>e=.returned (.tuple #[O J (stN f),.bool false])/\Lk Xb w w' B lo aS aH aF aL cS cH cF cL M f aK cK):=fun W h=>by
   have:=Bo M f B _ _ _ _ cS cH cF cL aK cK W h.m.box hc1 hn1
   rw[hat0] at this
   exact this.mono (fun e w' h'=>⟨h'.1,h.below h'.2⟩)
  have HZ:Hid (∀ ad,aK=some ad->¬ (A8 B aS aH aF aL) ad.block):=hz
  obtain⟨of,hof⟩:=frObj f aK cK
  obtain⟨oz,hoz⟩:∃ o:Obj,o=Ac:=⟨_,rfl⟩
  have HE:Hid (Lk Xb w ((w.alloc of).alloc oz) B lo aS aH aF aL cS cH cF cL M f aK cK):=Lk.first m f aK cK hof hoz
  obtain⟨q0,q1,q2,q3,q4,-,-,-,-,-,qs⟩:=Aj HE.out.m.box
  obtain⟨f0,f1,f2,f3,f4,f5,f6,f7,f8,f9,f10,f11,f12,f13,ff,fs⟩:=Aa HE.out.fb
  unfold Ac at hoz
  clear m hc1 hn1 hcur hns hnh hM hf r hz hres hat hat0
  go_enter Tryz.func175,Tryz.ntmps175
  go_wp2_with fail
  rw[<- hof,<- hoz]
  generalize (w.alloc of).alloc oz=W0 at *
  subst hof hoz
  clear q0 q1 q2 q3 q4 qs
  clear f0 f1 f2 f3 f4 f5 f6 f7 f8 f9 f10 f11 f12 f13 ff fs
  refine(HSt.out _ (by exact HE.out.below ⟨rfl,rfl,rfl,Nat.le_refl _,fun _ _=>rfl⟩)).mono ?_
  rintro e w1 ⟨rfl,h9⟩
  have HE1:Hid (Lk Xb w w1 B lo aS aH aF aL cS cH cF cL M f aK cK):=h9
  clear HE h9
  obtain⟨q0,q1,q2,q3,q4,-,-,-,-,-,qs⟩:=Aj HE1.out.m.box
  obtain⟨f0,f1,f2,f3,f4,f5,f6,f7,f8,f9,f10,f11,f12,f13,ff,fs⟩:=Aa HE1.out.fb
  go_wp2_with fail
  have HE2:Hid (Lk2 Xb w _ (A8 B aS aH aF aL) B lo M f aK cK):=HE1.out.two
  clear HE1
  clear q0 q1 q2 q3 q4 qs
  refine(Cc f 5 aK cK _).mono ?_
  rintro e w9 ⟨rfl,hb9⟩
  have HE9:Hid (Lk2 Xb w w9 (A8 B aS aH aF aL) B lo M f aK cK):=HE2.out.below hb9
  clear HE2 hb9
  clear f0 f1 f2 f3 f4 f5 f6 f7 f8 f9 f10 f11 f12 f13 ff fs
  obtain⟨g0,g1,g2,g3,g4,g5,g6,g7,g8,g9,g10,g11,g12,g13,gf,gs⟩:=Aa HE9.out.zb
  go_wp2
  refine bodyPost_ret (v:=.agg #[O J (toF f 5).c.kind,O J (toF f 5).c.a,O J (toF f 5).c.b,O J (toF f 5).c.time,O J (toF f 5).c.bk,O J (toF f 5).c.slot,O J (toF f 5).pl,O J (toF f 5).cur,O J (toF f 5).prev,O J (toF f 5).slot,O J (toF f 5).n,Y aK (toF f 5).keys.length cK,.bool (toF f 5).done,O J (toF f 5).e]) (by simp[results,Tryz.results175,go_sem,toF,g0,g1,g2,g3,g4,g5,g6,g7,g8,g9,g10,g11,g12,g13]) rfl ⟨⟨aK,cK,rfl,HR.out.fine HE9.out.Ah.2 HZ.out,(fun ad h=>.inl h),fun _=>⟨rfl,rfl⟩⟩,HE9.out.Ah⟩
set_option maxHeartbeats 3200000 in
theorem b3x(M:Mm)(f:Fr)(B lo:Nat)(aS aH aF aL:Option Addr)(cS cH cF cL:Nat)(aK:Option Addr)(cK:Nat)(w:World)
  (m:Mine Xb w B lo aS aH aF aL cS cH cF cL M) (hM:Ok M) (hf:Fit M f) (r:Ag w aK cK f.keys) (hz:∀ ad,aK=some ad->¬ A8 B aS aH aF aL ad.block) :
  Calls Tryz.prog 176 #[.pointer (some ⟨B,0,none⟩),.agg #[O J f.c.kind,O J f.c.a,O J f.c.b,O J f.c.time,O J f.c.bk,O J f.c.slot,O J f.pl,O J f.cur,O J f.prev,O J f.slot,O J f.n,Y aK f.keys.length cK,.bool f.done,O J f.e]] w fun e w'=>Ret w w' e (Jm M f) aK cK/\Has Xb w' B lo (Up w (A8 B aS aH aF aL)) (M)/\Fine w w' (A8 B aS aH aF aL):=by
 have hns:=hM.ns
 have hnh:=hM.nh.2
 have hcur:=hf.cur.2
 have hc1:f.cur<=1000:=by omega
 have hn1:M.slots.length<=1000:=by omega
 have HOk:Hid (Ok M):=hM
 have HR:Hid (Ag w aK cK f.keys):=r
 by_cases hat:D7 M f=true
 ·have h1:=Bv.1 hat
  obtain⟨j,hj⟩:∃ j:Nat,f.cur - 1=j:=⟨(f.cur - 1).toNat,by omega⟩
  have hjl:j<M.slots.length:=by omega
  obtain⟨gS,rfl,oS,lS,kS,-⟩:=Dc m.c.s (by omega)
  obtain⟨s,hs⟩:∃ s,s=A7 M (j:Int):=⟨_,rfl⟩
  have hst:stN f=j:=by unfold stN;rw[if_neg (by omega)];exact hj
  have hres:Jm M f=Bl f s.next 3:=by unfold Jm;rw[if_pos hat,hj,<- hs]
  rw[hres]
  have HSt:Hid (∀ (W:World),Lk Xb w W B lo (some ⟨gS,0,none⟩) aH aF aL cS cH cF cL M f aK cK->Calls Tryz.prog 200 #[.pointer (some ⟨B,0,none⟩),.agg #[O J f.c.kind,O J f.c.a,O J f.c.b,O J f.c.time,O J f.c.bk,O J f.c.slot,O J f.pl,O J f.cur,O J f.prev,O J f.slot,O J f.n,Y aK f.keys.length cK,.bool f.done,O J f.e]] W fun e w'=>e=.returned (.tuple #[O J ((j:Int)),.bool true])/\Lk Xb w w' B lo (some ⟨gS,0,none⟩) aH aF aL cS cH cF cL M f aK cK):=fun W h=>by
   have:=Bo M f B _ _ _ _ cS cH cF cL aK cK W h.m.box hc1 hn1
   rw[hst,hat] at this
   exact this.mono (fun e w' h'=>⟨h'.1,h.below h'.2⟩)
  have HX:Hid (∀ W,Mine Xb W B lo (some ⟨gS,0,none⟩) aH aF aL cS cH cF cL M->W.cell? ⟨gS,j*6+1,none⟩=some (O J s.a)/\W.cell? ⟨gS,j*6+2,none⟩=some (O J s.b)/\W.cell? ⟨gS,j*6+5,none⟩=some (O J s.next)):=fun W m'=>⟨(Bd m'.c.s hjl hs).2.1,(Bd m'.c.s hjl hs).2.2.1,(Bd m'.c.s hjl hs).2.2.2.2.2.1⟩
  have HZ:Hid (∀ ad,aK=some ad->¬ (A8 B (some ⟨gS,0,none⟩) aH aF aL) ad.block):=hz
  obtain⟨of,hof⟩:=frObj f aK cK
  obtain⟨oz,hoz⟩:∃ o:Obj,o=Ac:=⟨_,rfl⟩
  have HE:Hid (Lk Xb w ((w.alloc of).alloc oz) B lo (some ⟨gS,0,none⟩) aH aF aL cS cH cF cL M f aK cK):=Lk.first m f aK cK hof hoz
  obtain⟨q0,q1,q2,q3,q4,-,-,-,-,-,qs⟩:=Aj HE.out.m.box
  obtain⟨f0,f1,f2,f3,f4,f5,f6,f7,f8,f9,f10,f11,f12,f13,ff,fs⟩:=Aa HE.out.fb
  unfold Ac at hoz
  clear m hc1 hn1 hcur hns hnh hM hf r hz hres hs hst hat h1
  go_enter Tryz.func176,Tryz.ntmps176
  go_wp2_with fail
  rw[<- hof,<- hoz]
  generalize (w.alloc of).alloc oz=W0 at *
  subst hof hoz
  clear q0 q1 q2 q3 q4 qs
  clear f0 f1 f2 f3 f4 f5 f6 f7 f8 f9 f10 f11 f12 f13 ff fs
  refine(HSt.out _ (by exact HE.out.below ⟨rfl,rfl,rfl,Nat.le_refl _,fun _ _=>rfl⟩)).mono ?_
  rintro e w1 ⟨rfl,h9⟩
  have HE1:Hid (Lk Xb w w1 B lo (some ⟨gS,0,none⟩) aH aF aL cS cH cF cL M f aK cK):=h9
  clear HE h9
  obtain⟨q0,q1,q2,q3,q4,-,-,-,-,-,qs⟩:=Aj HE1.out.m.box
  obtain⟨f0,f1,f2,f3,f4,f5,f6,f7,f8,f9,f10,f11,f12,f13,ff,fs⟩:=Aa HE1.out.fb
  obtain⟨x1,x2,x5⟩:=HX.out w1 HE1.out.m
  go_wp2_with fail
  have HE2:Hid (Lk2 Xb w _ (A8 B (some ⟨gS,0,none⟩) aH aF aL) B lo M { f with cur:=s.next } aK cK):=(HE1.out.store 7 (O J s.next) { f with cur:=s.next } rfl).two
  clear HE1 x1 x2 x5
  clear q0 q1 q2 q3 q4 qs
  refine(Cc { f with cur:=s.next } 3 aK cK _).mono ?_
  rintro e w9 ⟨rfl,hb9⟩
  have HE9:Hid (Lk2 Xb w w9 (A8 B (some ⟨gS,0,none⟩) aH aF aL) B lo M { f with cur:=s.next } aK cK):=HE2.out.below hb9
  clear HE2 hb9
  clear f0 f1 f2 f3 f4 f5 f6 f7 f8 f9 f10 f11 f12 f13 ff fs
  obtain⟨g0,g1,g2,g3,g4,g5,g6,g7,g8,g9,g10,g11,g12,g13,gf,gs⟩:=Aa HE9.out.zb
  go_wp2
  refine bodyPost_ret (v:=.agg #[O J (Bl f s.next 3).c.kind,O J (Bl f s.next 3).c.a,O J (Bl f s.next 3).c.b,O J (Bl f s.next 3).c.time,O J (Bl f s.next 3).c.bk,O J (Bl f s.next 3).c.slot,O J (Bl f s.next 3).pl,O J (Bl f s.next 3).cur,O J (Bl f s.next 3).prev,O J (Bl f s.next 3).slot,O J (Bl f s.next 3).n,Y aK (Bl f s.next 3).keys.length cK,.bool (Bl f s.next 3).done,O J (Bl f s.next 3).e]) (by simp[results,Tryz.results176,go_sem,Bl,toF,g0,g1,g2,g3,g4,g5,g6,g7,g8,g9,g10,g11,g12,g13]) rfl ⟨⟨aK,cK,rfl,HR.out.fine HE9.out.Ah.2 HZ.out,(fun ad h=>.inl h),fun _=>⟨rfl,rfl⟩⟩,HE9.out.Ah⟩
 ·have hat0:D7 M f=false:=by simpa using hat
  have hres:Jm M f=Am f:=by unfold Jm;rw[if_neg hat]
  rw[hres]
  have HSt:Hid (∀ (W:World),Lk Xb w W B lo aS aH aF aL cS cH cF cL M f aK cK->Calls Tryz.prog 200 #[.pointer (some ⟨B,0,none⟩),.agg #[O J f.c.kind,O J f.c.a,O J f.c.b,O J f.c.time,O J f.c.bk,O J f.c.slot,O J f.pl,O J f.cur,O J f.prev,O J f.slot,O J f.n,Y aK f.keys.length cK,.bool f.done,O J f.e]] W fun e w'=>e=.returned (.tuple #[O J (stN f),.bool false])/\Lk Xb w w' B lo aS aH aF aL cS cH cF cL M f aK cK):=fun W h=>by
   have:=Bo M f B _ _ _ _ cS cH cF cL aK cK W h.m.box hc1 hn1
   rw[hat0] at this
   exact this.mono (fun e w' h'=>⟨h'.1,h.below h'.2⟩)
  have HZ:Hid (∀ ad,aK=some ad->¬ (A8 B aS aH aF aL) ad.block):=hz
  obtain⟨of,hof⟩:=frObj f aK cK
  obtain⟨oz,hoz⟩:∃ o:Obj,o=Ac:=⟨_,rfl⟩
  have HE:Hid (Lk Xb w ((w.alloc of).alloc oz) B lo aS aH aF aL cS cH cF cL M f aK cK):=Lk.first m f aK cK hof hoz
  obtain⟨q0,q1,q2,q3,q4,-,-,-,-,-,qs⟩:=Aj HE.out.m.box
  obtain⟨f0,f1,f2,f3,f4,f5,f6,f7,f8,f9,f10,f11,f12,f13,ff,fs⟩:=Aa HE.out.fb
  unfold Ac at hoz
  clear m hc1 hn1 hcur hns hnh hM hf r hz hres hat hat0
  go_enter Tryz.func176,Tryz.ntmps176
  go_wp2_with fail
  rw[<- hof,<- hoz]
  generalize (w.alloc of).alloc oz=W0 at *
  subst hof hoz
  clear q0 q1 q2 q3 q4 qs
  clear f0 f1 f2 f3 f4 f5 f6 f7 f8 f9 f10 f11 f12 f13 ff fs
  refine(HSt.out _ (by exact HE.out.below ⟨rfl,rfl,rfl,Nat.le_refl _,fun _ _=>rfl⟩)).mono ?_
  rintro e w1 ⟨rfl,h9⟩
  have HE1:Hid (Lk Xb w w1 B lo aS aH aF aL cS cH cF cL M f aK cK):=h9
  clear HE h9
  obtain⟨q0,q1,q2,q3,q4,-,-,-,-,-,qs⟩:=Aj HE1.out.m.box
  obtain⟨f0,f1,f2,f3,f4,f5,f6,f7,f8,f9,f10,f11,f12,f13,ff,fs⟩:=Aa HE1.out.fb
  go_wp2_with fail
  have HE2:Hid (Lk2 Xb w _ (A8 B aS aH aF aL) B lo M f aK cK):=HE1.out.two
  clear HE1
  clear q0 q1 q2 q3 q4 qs
  refine(Tc f aK cK _).mono ?_
  rintro e w9 ⟨rfl,hb9⟩
  have HE9:Hid (Lk2 Xb w w9 (A8 B aS aH aF aL) B lo M f aK cK):=HE2.out.below hb9
  clear HE2 hb9
  clear f0 f1 f2 f3 f4 f5 f6 f7 f8 f9 f10 f11 f12 f13 ff fs
  obtain⟨g0,g1,g2,g3,g4,g5,g6,g7,g8,g9,g10,g11,g12,g13,gf,gs⟩:=Aa HE9.out.zb
  go_wp2
  refine bodyPost_ret (v:=.agg #[O J (Am f).c.kind,O J (Am f).c.a,O J (Am f).c.b,O J (Am f).c.time,O J (Am f).c.bk,O J (Am f).c.slot,O J (Am f).pl,O J (Am f).cur,O J (Am f).prev,O J (Am f).slot,O J (Am f).n,Y aK (Am f).keys.length cK,.bool (Am f).done,O J (Am f).e]) (by simp[results,Tryz.results176,go_sem,Am,g0,g1,g2,g3,g4,g5,g6,g7,g8,g9,g10,g11,g12,g13]) rfl ⟨⟨aK,cK,rfl,HR.out.fine HE9.out.Ah.2 HZ.out,(fun ad h=>.inl h),fun _=>⟨rfl,rfl⟩⟩,HE9.out.Ah⟩
end
end Go.Proofs.YthhgoenomehobaaGreat.mm
