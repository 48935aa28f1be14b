/- Parts. -/
import Derived.Test.YthhgoenomehobaaGreatP38
import Derived.Test.YthhgoenomehobaaGreatP40
namespace Go.Proofs.YthhgoenomehobaaGreat.mm
open Nat renaming le_trans → dQ
open List renaming replicate → aQ, length_map → kN, drop_eq_getElem_cons → aW, mem_cons → aZ
open Joins renaming cell_of_block → dN, below_alloc2 → oO
open RowKit.Below renaming refl → dK
open Go renaming lt_of_block → fC, heap_alloc_new → fP, Value → dU, Calls → aI, execOp → kD, callFunc → jI, TypeId → dX, undef → Uz, World → Wq
open Tryz
set_option maxRecDepth 100000
set_option linter.unusedVariables false
open Value renaming int → O, slice → Y
open IntKind renaming i64 → J
open Tryz renaming prog → Pg
open ChangeShapes WideShapes ChangeAt RowKit Joins Deep Maps
set_option maxHeartbeats 0
variable (p:Pst)(n:Nat)(aK:Option Addr)(cK:Nat)(X:Option Fl)(u:Int){W:Wd}(v:dU)(aP:Option Addr)(cP:Nat)(l:List Pk)(B:Nat)(x y:Mo)(s:Int)
section
theorem a5p(lo a b:Nat)(w:Wq)(B1 B2 B3 B4 g:Nat)(aP:Option Addr)(cP:Nat)(l:List Pk)(v1 v4:dU)(said:List Int)(pl:List (Pst × Option Addr × Nat))(beg:List Nat)(Z:List (Nat × Array dU))(W:Wd)(v:dU)(i:Nat)(E:Int)
  (h:Cs lo a b w B1 B2 B3 B4 g v1 (Y aP l.length cP) v4 said pl beg Z) (hz:b<=w.heap.size) (hr:H8 w aP cP l) (uK:∀ ad,aP=some ad->ad.block<lo) (hi:i<l.length) (hs:said.length<=300) (GG:pl.length<=300) (hW:WIn a b w v W)
  (hx:E=0->(l[i]'hi).tick=false->0<=(l[i]'hi).s/\(l[i]'hi).s<W.t.length) (gy:beg.length=W.t.length) :
  aI Pg 80 #[O J i,v,O J E,Ae B1,Ae B2,Ae B3,Ae B4] w (a6e lo a b w B1 B2 B3 B4 g (Y aP l.length cP) (said ++ [E]) (Vg (l[i]'hi) E i beg W (pl.map (·.1))) (Vf (l[i]'hi) E i beg) Z):=by
 unfold Ae
 by_cases h0:E=0
 rotate_left
 ·have h1:=b3t lo a b w B1 B2 B3 B4 g aP cP l v1 v4 said pl beg Z W v i E h hz hr uK hi hs GG hW h0
  unfold Vg Vf
  rw[af (.inl h0),af (.inl h0)]
  exact h1
 cases hT:(l[i]'hi).tick
 rotate_left
 ·have h1:=b0i lo a b w B1 B2 B3 B4 g aP cP l v1 v4 said pl beg Z W v i E h hz hr uK hi hs GG hW h0 hT
  unfold Vg Vf
  rw[af (.inr hT),af (.inr hT)]
  exact h1
 have hk:=hx h0 hT
 have hn:¬ (E≠0\/(l[i]'hi).tick=true):=by rw[hT];simp[h0]
 cases hS:(l[i]'hi).step
 ·have h1:=a7k lo a b w B1 B2 B3 B4 g aP cP l v1 v4 said pl beg Z W v i E h hz hr uK hi hs GG hW h0 hT hS (by rw[gy];exact hk)
  unfold Vg Vf
  rw[ae hn,ae hn,ae (by rw[hS];simp),ae (by rw[hS];simp)]
  exact h1
 cases hB:(W.t.getD (l[i]'hi).s.toNat idle).b
 ·have h1:=b0h lo a b w B1 B2 B3 B4 g aP cP l v1 v4 said pl beg Z W v i E h hz hr uK hi hs GG hW h0 hT hS hk hB gy
  unfold Vg Vf
  rw[ae hn,ae hn,af hS,af hS,ae (by rw[hB];simp)]
  exact h1
 ·have h1:=b0g lo a b w B1 B2 B3 B4 g aP cP l v1 v4 said pl beg Z W v i E h hz hr uK hi hs GG hW h0 hT hS hk hB
  unfold Vg Vf
  rw[ae hn,ae hn,af hS,af hS,af hB]
  exact h1
theorem b2f(s:Rs)(x:Pk):Va n s x=⟨Et s.w x,s.said ++ [doE s.w x],Vg x (doE s.w x) n s.beg (Et s.w x) s.past,Vf x (doE s.w x) n s.beg⟩:=by
 unfold Va Et Vg Vf
 by_cases h:doE s.w x=0
 ·rw[af h,af h,h]
  cases hT:x.tick
  ·cases hS:x.step
   ·simp
   ·simp
    split <;> simp_all
  ·simp
 ·rw[ae h,ae h,af (.inl h),af (.inl h)]
section
variable {lo a b:Nat} {w w':Wq} {B1 B2 B3 B4 g:Nat} {v1 v2 v4:dU} {said:List Int} {pl:List (Pst × Option Addr × Nat)} {beg:List Nat} {Z:List (Nat × Array dU)}
theorem Cs.wide(h:Cs lo a b w B1 B2 B3 B4 g v1 v2 v4 said pl beg Z):Cs lo 0 0 w B1 B2 B3 B4 g v1 v2 v4 said pl beg Z :=
 have hz:∀ k,Out 0 0 k:=fun k hx=>by have:=hx.2;omega
 ⟨h.s,h.so,fun k _=>hz k,h.f,h.fo,hz _,h.p,h.po,fun k _=>hz k,fun q hq=>⟨(h.pk q hq).1,fun ad _=>hz _⟩,⟨h.o1.1,hz _⟩,⟨h.o3.1,hz _⟩,⟨h.o4.1,hz _⟩,h.og,h.x,⟨h.ox.1,hz _⟩,h.z⟩
theorem Cs.off(h:Cs lo a b w B1 B2 B3 B4 g v1 v2 v4 said pl beg Z){X:Nat}{c:Array dU}(hX:w.heap[X]?=some (.cells c 28 (0,0)))(hk:∀ k,k≠X->w'.heap[k]?=w.heap[k]?)(hZ:∀ q∈Z,q.1≠X):Cs lo a b w' B1 B2 B3 B4 g v1 v2 v4 said pl beg Z:=by
 have nb:∀ {Yq:Nat} {cs:Array dU} {t':dX},w.heap[Yq]?=some (.cells cs t' (0,0))->t'≠28->w'.heap[Yq]?=some (.cells cs t' (0,0)):=fun hY n2=>by
  refine(hk _ ?_).trans hY
  rintro rfl
  rw[hX] at hY
  injection hY with hY
  injection hY with _ hY
  exact n2 hY.symm
 have nr:∀ {uP size n':Nat} {t':dX} {u:dU} {xs:List dU},w.ownsRow uP t' size u n' xs->t'≠28->w'.ownsRow uP t' size u n' xs:=fun hu n2=>by
  refine Cb hu fun k EC=>hk k ?_
  rintro rfl
  exact own_ne hu hX n2 EC
 exact⟨nb h.s (by decide),nr h.so (by decide),h.sx,nb h.f (by decide),nb h.fo (by decide),h.fx,nb h.p (by decide),nr h.po (by decide),h.px,fun q hq=>⟨⟨nr (h.pk q hq).1.own (by decide)⟩,(h.pk q hq).2⟩,h.o1,h.o3,h.o4,h.og,nb h.x (by decide),h.ox,fun q hq=>(hk _ (hZ q hq)).trans (h.z q hq)⟩
theorem Cs.more(h:Cs lo a b w B1 B2 B3 B4 g v1 v2 v4 said pl beg Z){Z':List (Nat × Array dU)}(hZ:∀ q∈Z',w.heap[q.1]?=some (.cells q.2 28 (0,0))):Cs lo a b w B1 B2 B3 B4 g v1 v2 v4 said pl beg Z' :=
 ⟨h.s,h.so,h.sx,h.f,h.fo,h.fx,h.p,h.po,h.px,h.pk,h.o1,h.o3,h.o4,h.og,h.x,h.ox,hZ⟩
end
theorem THi.le{lo uP:Nat}{ao:Option Addr}{l:List (Tk × TkV)}(h:THi lo ao l)(hl:uP<=lo):THi uP ao l:=⟨fun ad e=>dQ hl (h.row ad e),fun p hp ad e=>dQ hl (h.t p hp ad e),fun p hp ad e=>dQ hl (h.u p hp ad e)⟩
theorem b3c.wans{w:Wq}{M:Mm}{ts:List Tk}{e:Ending}{w':Wq}(h:b3c w M ts e w')(m1:M.s.length*48<=140737488351232)(m2:M.h.length*8<=140737488351232)(m3:M.f.length*8<=140737488351232)(m4:M.l.length*8<=140737488351232):∃ v,e=.returned v/\Di w.heap.size w' v ⟨M,ts⟩/\Below w.heap.size w w':=by
 obtain⟨gS,gH,gF,gL,kS,kH,kF,kL,gg,c,l',dw,rfl,R,L,T,-,tC,hlo,hb⟩:=h
 refine⟨_,rfl,⟨gS,gH,gF,gL,kS,kH,kF,kL,some ⟨gg,0,none⟩,c,l',?_,R.at m1 m2 m3 m4,R.hi,tC.symm,T.a8q,T.thi.le hlo⟩,hb⟩
 subst tC
 simp only[kN]
def TurnP(lo X:Nat)(w:Wq)(B1 B2 B3 B4 g:Nat)(v2:dU)(s:Rs)(Z:List (Nat × Array dU))(e:Ending)(w':Wq):Prop :=
 ∃ v v1 v4 pl,e=.returned v/\Cs lo 0 0 w' B1 B2 B3 B4 g v1 v2 v4 s.said pl s.beg Z/\pl.map (·.1)=s.past/\Di X w' v s.w/\Below lo w w'
end
theorem do_E(hE:wE W=0){x:Pk}{lo:Nat}{V:Wq}{aS aH aF aL:Option Addr}{cS cH cF cL:Nat}{aT:Option Addr}{cT:Nat}(h:Di lo V (.agg #[Y aS W.m.s.length cS,Y aH W.m.h.length cH,Y aF W.m.f.length cF,Y aL W.m.l.length cL,O J W.m.w,Y aT W.t.length cT]) W) :
  aI Pg 15 #[Ew aS aH aF aL cS cH cF cL aT cT W,Qn x] V fun e V'=>∃ v,e=.returned (.tuple #[v,O J (doE W x)])/\Di V.heap.size V' v (if doE W x=0 then doW W x else w0W)/\Below V.heap.size V V':=by
 unfold Ew Qn
 obtain⟨bS,bH,bF,bL,dS,dH,dF,dL,bT,dT,lt,e,A,hi,tC,hT,wK⟩:=h
 have e1:=Value.agg.inj e
 simp only[Array.mk.injEq,List.cons.injEq,Value.slice.injEq,true_and,and_true] at e1
 obtain⟨⟨rfl,rfl⟩,⟨rfl,rfl⟩,⟨rfl,rfl⟩,⟨rfl,rfl⟩,rfl,rfl⟩:=e1
 have h:=b5n W.m lt x aS aH aF aL cS cH cF cL aT cT V A hT
 have xw:lt.length=W.t.length:=by rw[tC,kN]
 rw[<- tC,xw] at h
 refine h.mono ?_
 rintro e w' ⟨v,rfl,h1,h2⟩
 rw[show DoE W x=doE W x by unfold DoE;rw[hE,ae (by simp)]] at h1 ⊢
 exact⟨v,rfl,h1,h2⟩
theorem own_E(hE:wE W=0){lo:Nat}{V:Wq}{aS aH aF aL:Option Addr}{cS cH cF cL:Nat}{aT:Option Addr}{cT:Nat}(h:Di lo V (.agg #[Y aS W.m.s.length cS,Y aH W.m.h.length cH,Y aF W.m.f.length cF,Y aL W.m.l.length cL,O J W.m.w,Y aT W.t.length cT]) W) :
  aI Pg 57 #[Ew aS aH aF aL cS cH cF cL aT cT W] V fun e V'=>∃ v,e=.returned v/\Di V.heap.size V' v W/\Below V.heap.size V V':=by
 unfold Ew
 obtain⟨bS,bH,bF,bL,dS,dH,dF,dL,bT,dT,lt,e,A,hi,tC,hT,wK⟩:=h
 have e1:=Value.agg.inj e
 simp only[Array.mk.injEq,List.cons.injEq,Value.slice.injEq,true_and,and_true] at e1
 obtain⟨⟨rfl,rfl⟩,⟨rfl,rfl⟩,⟨rfl,rfl⟩,⟨rfl,rfl⟩,rfl,rfl⟩:=e1
 have xw:lt.length=W.t.length:=by rw[tC,kN]
 have h:=a5t W.m lt aS aH aF aL cS cH cF cL aT cT V A hT (by have:=(Ko.1 hE).2.1;omega) (by have:=(Ko.1 hE).2.2.1;omega) (fun p hp=>by
  have:=(Po.1 ((Ko.1 hE).2.2.2 p.1 (by rw[tC];exact List.mem_map_of_mem hp))).1
  omega)
 rw[<- tC,xw] at h
 refine h.mono ?_
 intro e w' h
 exact h.wans A.s.max A.h.max A.f.max A.l.max
def okB:List Pk->Wd->Bool
 | [],W=>wE W==0
 | x :: l,W=>wE W==0 && okB l (if doE W x=0 then doW W x else W)
theorem a1s{l:List Pk}{W:Wd}(h:okB l W=true):wE W=0:=by
 cases l with
 | nil=>simpa [okB] using h
 | cons x l=>simp only[okB,Bool.and_eq_true,beq_iff_eq] at h;exact h.1
theorem b0v{x:Pk}{l:List Pk}{W:Wd}(h:okB (x :: l) W=true):okB l (if doE W x=0 then doW W x else W)=true:=by
 simp only[okB,Bool.and_eq_true,beq_iff_eq] at h;exact h.2
theorem b5o{x:Pk}(h:doE W x=0):(doW W x).t.length=W.t.length/\(x.tick=false->0<=x.s/\x.s<W.t.length):=by
 rcases a7z h with ⟨ht,-,e⟩|⟨ht,-,hr,-,-,e⟩|⟨ht,-,hr,-,-,-,-,-,e⟩
 ·rw[e,ht];exact⟨rfl,fun h=>by cases h⟩
 ·rw[e];exact⟨by simp,fun _=>hr⟩
 ·rw[e];exact⟨by simp,fun _=>hr⟩
theorem H8.low{w w':Wq}{lo:Nat}{ao:Option Addr}{bg:Nat}{l:List Pk}(r:H8 w ao bg l)(hb:Below lo w w')(hl:∀ ad,ao=some ad->ad.block<lo):H8 w' ao bg l:=by
 refine⟨r.le,r.max,r.nil,?_⟩
 rcases r.at_ with h|⟨b,o,h,hc⟩
 ·exact .inl h
 ·exact .inr ⟨b,o,h,fun i hi=>Ed (hc i hi) hb (hl _ h)⟩
theorem a1m(x:Pk)(e:Int)(i:Nat)(beg:List Nat):(Vf x e i beg).length=beg.length:=by
 unfold Vf
 repeat' split
 all_goals simp
theorem a1n(x:Pk)(e:Int)(i:Nat)(beg:List Nat)(W:Wd)(past:List Pst):(Vg x e i beg W past).length<=past.length+1:=by
 unfold Vg
 repeat' split
 all_goals simp
theorem a3g(lo:Nat)(w:Wq)(B1 B2 B3 B4 g:Nat)(aP:Option Addr)(cP:Nat)(l:List Pk)(v1 v4:dU)(beg:List Nat)(Zx:List (Nat × Array dU))(W0:Wd)(v:dU)
  (hI:okB l W0=true) (hv:Di 0 w v W0) (h:Cs lo 0 0 w B1 B2 B3 B4 g v1 (Y aP l.length cP) v4 [] [] beg Zx) (hr:H8 w aP cP l) (uK:0<l.length->∀ ad,aP=some ad->ad.block<lo) (hl:l.length<=300) (gy:beg.length=W0.t.length) (hlo:lo<=w.heap.size) :
  aI Pg 79 #[v,Y aP l.length cP,.func (.func 80) #[] #[.pointer (some ⟨B1,0,none⟩),.pointer (some ⟨B2,0,none⟩),.pointer (some ⟨B3,0,none⟩),.pointer (some ⟨B4,0,none⟩)]] w (TurnP lo w.heap.size w B1 B2 B3 B4 g (Y aP l.length cP) (Vk 0 ⟨W0,[],[],beg⟩ l) Zx):=by
 have m1:=hr.max
 have m2:=hr.le
 have HR:Qi (H8 w aP cP l):=hr
 have RU:Qi (0<l.length->∀ ad,aP=some ad->ad.block<lo):=uK
 have PV:Qi (okB l W0=true):=hI
 have PE:Qi (lo<=w.heap.size):=hlo
 have Hl:Qi (l.length<=300):=hl
 obtain⟨s0,AU⟩:∃ s0:Rs,s0=⟨W0,[],[],beg⟩:=⟨_,rfl⟩
 rw[<- AU]
 obtain⟨sE,NS⟩:∃ sE:Rs,sE=Vk 0 s0 l:=⟨_,rfl⟩
 rw[<- NS]
 have FD:Qi (Vk 0 s0 (l.drop 0)=sE):=by show _=_;rw[NS];rfl
 have RI:Qi (s0=⟨W0,[],[],beg⟩):=AU
 have ny:Qi (Cs lo 0 0 w B1 B2 B3 B4 g v1 (Y aP l.length cP) v4 [] [] beg Zx):=h
 have HZx:Qi (∀ q∈Zx,q.1<w.heap.size):=fun q hq=>fC (h.z q hq)
 have xm:Qi (beg.length=W0.t.length):=gy
 obtain⟨aS,aH,aF,aL,cS,cH,cF,cL,aT,cT,lt,rfl,-⟩:=id hv
 obtain⟨ox,jq⟩:∃ o:Obj,o=.cells #[Y aS W0.m.s.length cS,Y aH W0.m.h.length cH,Y aF W0.m.f.length cF,Y aL W0.m.l.length cL,O J W0.m.w,Y aT W0.t.length cT] 28:=⟨_,rfl⟩
 obtain⟨oy,uM⟩:∃ o:Obj,o=.cells #[Y none 0 0,Y none 0 0,Y none 0 0,Y none 0 0,O J 0,Y none 0 0] 28:=⟨_,rfl⟩
 have b0:Below w.heap.size w ((w.alloc ox).alloc oy):=oO w ox oy
 have ni:Qi (((w.alloc ox).alloc oy).heap[w.heap.size]?=some ox):=by show _=_;rw[Below.heap_alloc _ _ _ (by simp),fP]
 have tV:Qi (((w.alloc ox).alloc oy).heap[w.heap.size+1]?=some oy):=by
  have:=fP (w.alloc ox) oy
  rwa [show (w.alloc ox).heap.size=w.heap.size+1 by simp] at this
 have lq:Qi (Di 0 ((w.alloc ox).alloc oy) (.agg #[Y aS W0.m.s.length cS,Y aH W0.m.h.length cH,Y aF W0.m.f.length cF,Y aL W0.m.l.length cL,O J W0.m.w,Y aT W0.t.length cT]) W0):=hv.below b0
 have uu:Qi (Below w.heap.size w ((w.alloc ox).alloc oy)):=b0
 have ng:w.heap.size+2=((w.alloc ox).alloc oy).heap.size:=by simp
 clear hI hv h hr uK gy AU NS hlo b0
 go_enter func79,ntmps79
 have l6:Qi (((w.alloc (.cells #[Y aS W0.m.s.length cS,Y aH W0.m.h.length cH,Y aF W0.m.f.length cF,Y aL W0.m.l.length cL,O J W0.m.w,Y aT W0.t.length cT] 28)).alloc (.cells #[Y none 0 0,Y none 0 0,Y none 0 0,Y none 0 0,O J 0,Y none 0 0] 28)).rangeAt w.heap.size 0 [Y aS W0.m.s.length cS,Y aH W0.m.h.length cH,Y aF W0.m.f.length cF,Y aL W0.m.l.length cL,O J W0.m.w,Y aT W0.t.length cT]):=by subst jq uM;exact Aq ni.o rfl
 go_wp2_with (refine F8 rfl _ rfl rfl l6.o ?_)
 rw[<- jq,<- uM]
 rw[<- jq,<- uM] at l6
 clear l6
 generalize (w.alloc ox).alloc oy=W1 at *
 subst jq uM
 refine(own_E (a1s PV.o) lq.o).mono ?_
 rintro e w2 ⟨v2,rfl,FX,dm⟩
 obtain⟨xK,xN,xO,xM,xE,xI,xJ,xG,xe,xC,lt2,rfl,-⟩:=id FX
 have sZ:Qi (w2.heap[w.heap.size]?=_):=(dm.block _ (fC ni.o)).trans ni.o
 have PI:Qi (w2.heap[w.heap.size+1]?=_):=(dm.block _ (fC tV.o)).trans tV.o
 have t6:Qi (w2.there w.heap.size 0 6):=Be sZ.o (by simp)
 have pq:=dm.size
 have uo:Qi (Below w.heap.size w w2):=uu.o.trans (dm.mono uu.o.size)
 obtain⟨W3,zX⟩:∃ W3,W3=w2.setCells w.heap.size 0 [Y xK W0.m.s.length xE,Y xN W0.m.h.length xI,Y xO W0.m.f.length xJ,Y xM W0.m.l.length xG,O J W0.m.w,Y xe W0.t.length xC]:=⟨_,rfl⟩
 have AZ:∀ k,k≠w.heap.size->W3.heap[k]?=w2.heap[k]?:=fun k hk=>by rw[zX];exact Af hk _ _ _
 have hX3:W3.heap[w.heap.size]?=some (.cells #[Y xK W0.m.s.length xE,Y xN W0.m.h.length xI,Y xO W0.m.f.length xJ,Y xM W0.m.l.length xG,O J W0.m.w,Y xe W0.t.length xC] 28 (0,0)):=by rw[zX];exact Bi sZ.o rfl
 have hY3:W3.heap[w.heap.size+1]?=some (.cells #[Y none 0 0,Y none 0 0,Y none 0 0,Y none 0 0,O J 0,Y none 0 0] 28 (0,0)):=(AZ _ (by omega)).trans PI.o
 have hsz3:W3.heap.size=w2.heap.size:=by rw[zX];exact setCells_size _ _ _
 have WU:Qi (WIn W1.heap.size w2.heap.size W3 (.agg #[Y xK W0.m.s.length xE,Y xN W0.m.h.length xI,Y xO W0.m.f.length xJ,Y xM W0.m.l.length xG,O J W0.m.w,Y xe W0.t.length xC]) W0):=FX.wIn.same fun k h1 h2=>AZ k (by omega)
 have vH:Qi (Below lo w W3):=by
  have h1:Below w.heap.size w W3:=by rw[zX];exact Bd uo.o (Nat.le_refl _)
  exact h1.mono PE.o
 have wz:Qi (Cs lo W1.heap.size w2.heap.size W3 B1 B2 B3 B4 g v1 (Y aP l.length cP) v4 [] [] beg ((w.heap.size,#[Y xK W0.m.s.length xE,Y xN W0.m.h.length xI,Y xO W0.m.f.length xJ,Y xM W0.m.l.length xG,O J W0.m.w,Y xe W0.t.length xC]) :: (w.heap.size+1,#[Y none 0 0,Y none 0 0,Y none 0 0,Y none 0 0,O J 0,Y none 0 0]) :: Zx)):=by
  have h1:Cs lo W1.heap.size w2.heap.size W1 B1 B2 B3 B4 g v1 (Y aP l.length cP) v4 [] [] beg Zx:=(ny.o.below uu.o).turn _
  have h2:=(h1.below dm).off sZ.o AZ (fun q hq=>by have:=HZx.o q hq;omega)
  refine h2.more fun q hq=>?_
  simp only[aZ] at hq
  rcases hq with rfl|rfl|hq
  ·exact hX3
  ·exact hY3
  ·exact h2.z q hq
 clear AZ hX3 hY3 ni tV lq uu sZ PI FX dm uo ny
 go_wp2_with (refine Iu rfl _ _ rfl rfl rfl t6.o (by kernel_rfl) ?_;rw[<- zX];clear t6 zX)
 have uF:Qi (w.heap.size+1<W1.heap.size/\w2.heap.size<=W3.heap.size):=⟨by omega,by omega⟩
 go_loopw [15] (fun i wr=>∃ (k:Nat) (s:Rs) (a b:Nat) (v1 v4:dU) (pl:List (Pst × Option Addr × Nat)) (aS aH aF aL:Option Addr) (cS cH cF cL:Nat) (aT:Option Addr) (cT:Nat),k<=l.length/\i=O J k/\Qi (Vk k s (l.drop k)=sE)/\Qi (okB (l.drop k) s.w=true)/\Qi (Cs lo a b wr B1 B2 B3 B4 g v1 (Y aP l.length cP) v4 s.said pl s.beg ((w.heap.size,#[Y aS s.w.m.s.length cS,Y aH s.w.m.h.length cH,Y aF s.w.m.f.length cF,Y aL s.w.m.l.length cL,O J s.w.m.w,Y aT s.w.t.length cT]) :: (w.heap.size+1,#[Y none 0 0,Y none 0 0,Y none 0 0,Y none 0 0,O J 0,Y none 0 0]) :: Zx))/\Qi (pl.map (·.1)=s.past)/\Qi (WIn a b wr (.agg #[Y aS s.w.m.s.length cS,Y aH s.w.m.h.length cH,Y aF s.w.m.f.length cF,Y aL s.w.m.l.length cL,O J s.w.m.w,Y aT s.w.t.length cT]) s.w)/\Qi (Below lo w wr)/\Qi (w.heap.size+1<a/\b<=wr.heap.size)/\Qi (s.said.length=k/\pl.length<=k/\s.beg.length=s.w.t.length)) (fun i _=>l.length - (intOf i).toNat)
 case atStart=>exact⟨0,s0,W1.heap.size,w2.heap.size,v1,v4,[],xK,xN,xO,xM,xE,xI,xJ,xG,xe,xC,Nat.zero_le _,rfl,FD,by rw[RI.o];exact PV,by rw[RI.o];exact wz,by rw[RI.o];exact rfl,by rw[RI.o];exact WU,vH,uF,by rw[RI.o];exact⟨rfl,Nat.le_refl _,xm.o⟩⟩
 case round =>
  obtain⟨k,s,a,b,v1,v4,pl,aS,aH,aF,aL,cS,cH,cF,cL,aT,cT,hk,rfl,HrE,HIw,HC,XK,KA,Hb,HZ,HN⟩:=hrel
  clear wz WU vH uF FD RI PV xm
  have WS:Qi (wr.heap[w.heap.size]?=some (.cells #[Y aS s.w.m.s.length cS,Y aH s.w.m.h.length cH,Y aF s.w.m.f.length cF,Y aL s.w.m.l.length cL,O J s.w.m.w,Y aT s.w.t.length cT] 28 (0,0))):=HC.o.z _ (.head _)
  have RP:Qi (wr.heap[w.heap.size+1]?=some (.cells #[Y none 0 0,Y none 0 0,Y none 0 0,Y none 0 0,O J 0,Y none 0 0] 28 (0,0))):=HC.o.z _ (.tail _ (.head _))
  by_cases gm:k<l.length
  ·have XG:Qi (∀ ad,aP=some ad->ad.block<lo):=RU.o (by omega)
   clear RU
   rcases HR.o.at_ with h0|⟨bP,oP,rfl,hx⟩
   ·omega
   have hbP:bP<lo:=XG.o _ rfl
   have lX:Qi (wr.rangeAt bP (oP+k*9) [O J (l[k]).s,.bool (l[k]).step,.bool (l[k]).tick,O J ((l[k]).c).k,O J ((l[k]).c).a,O J ((l[k]).c).b,O J ((l[k]).c).t,O J ((l[k]).c).q,O J ((l[k]).c).h]):=Ed (hx k gm) Hb.o hbP
   clear hx
   obtain⟨x,hx⟩:∃ x,x=l[k]:=⟨_,rfl⟩
   rw[<- hx] at lX
   have Hx:Qi (x=l[k]):=hx
   clear hx
   have YS:lo<=wr.heap.size:=by have:=PE.o;have:=Hb.o.size;omega
   obtain⟨op,qU⟩:∃ o:Obj,o=.cells #[O J x.s,.bool x.step,.bool x.tick,O J x.c.k,O J x.c.a,O J x.c.b,O J x.c.t,O J x.c.q,O J x.c.h] 34:=⟨_,rfl⟩
   have b2:Below wr.heap.size wr (wr.alloc op):=A7 _ _
   have sZ:Qi ((wr.alloc op).heap[w.heap.size]?=some (.cells #[Y aS s.w.m.s.length cS,Y aH s.w.m.h.length cH,Y aF s.w.m.f.length cF,Y aL s.w.m.l.length cL,O J s.w.m.w,Y aT s.w.t.length cT] 28 (0,0))):=(b2.block _ (fC WS.o)).trans WS.o
   have IB:Qi ((wr.alloc op).heap[wr.heap.size]?=some op):=fP _ _
   have sO:Qi (Cs lo a b (wr.alloc op) B1 B2 B3 B4 g v1 (Y (some ⟨bP,oP,none⟩) l.length cP) v4 s.said pl s.beg ((w.heap.size,#[Y aS s.w.m.s.length cS,Y aH s.w.m.h.length cH,Y aF s.w.m.f.length cF,Y aL s.w.m.l.length cL,O J s.w.m.w,Y aT s.w.t.length cT]) :: (w.heap.size+1,#[Y none 0 0,Y none 0 0,Y none 0 0,Y none 0 0,O J 0,Y none 0 0]) :: Zx)):=HC.o.below b2
   have uY:Qi (WIn a b (wr.alloc op) (.agg #[Y aS s.w.m.s.length cS,Y aH s.w.m.h.length cH,Y aF s.w.m.f.length cF,Y aL s.w.m.l.length cL,O J s.w.m.w,Y aT s.w.t.length cT]) s.w):=KA.o.same fun j h1 h2=>b2.block j (by have:=HZ.o.2;omega)
   have uo:Qi (Below lo w (wr.alloc op)):=Hb.o.alloc YS op
   have rG:Qi (w.heap.size+1<a/\b<=(wr.alloc op).heap.size/\w.heap.size+1<(wr.alloc op).heap.size):=⟨HZ.o.1,by have:=HZ.o.2;simp;omega,by have:=fC RP.o;simp;omega⟩
   subst qU
   have l6:Qi ((wr.alloc (.cells #[O J x.s,.bool x.step,.bool x.tick,O J x.c.k,O J x.c.a,O J x.c.b,O J x.c.t,O J x.c.q,O J x.c.h] 34)).rangeAt w.heap.size 0 [Y aS s.w.m.s.length cS,Y aH s.w.m.h.length cH,Y aF s.w.m.f.length cF,Y aL s.w.m.l.length cL,O J s.w.m.w,Y aT s.w.t.length cT]):=Aq sZ.o rfl
   have LJ:Qi ((wr.alloc (.cells #[O J x.s,.bool x.step,.bool x.tick,O J x.c.k,O J x.c.a,O J x.c.b,O J x.c.t,O J x.c.q,O J x.c.h] 34)).rangeAt wr.heap.size 0 [O J x.s,.bool x.step,.bool x.tick,O J x.c.k,O J x.c.a,O J x.c.b,O J x.c.t,O J x.c.q,O J x.c.h]):=Aq IB.o rfl
   have hzz:wr.heap.size<(wr.alloc (.cells #[O J x.s,.bool x.step,.bool x.tick,O J x.c.k,O J x.c.a,O J x.c.b,O J x.c.t,O J x.c.q,O J x.c.h] 34)).heap.size:=by simp
   clear WS RP b2 HC KA Hb HZ
   go_wp2_with (first|refine Vl rfl _ rfl rfl lX.o ?_|refine F8 rfl _ rfl rfl l6.o ?_|refine Vl rfl _ rfl rfl LJ.o ?_)
   clear l6 LJ lX IB
   generalize World.alloc wr _=W2 at *
   refine(do_E (a1s HIw.o) (x:=x) (uY.o W2 (fun _ _ _=>rfl))).mono ?_
   rintro e w3 ⟨v3,rfl,uB,gu⟩
   obtain⟨E,hE⟩:∃ E,E=doE s.w x:=⟨_,rfl⟩
   rw[<- hE] at uB ⊢
   have HE:Qi (E=doE s.w x):=hE
   have PD:=b2f k s x
   rw[<- hE] at PD
   have XT:Qi (okB (l.drop (k+1)) (if doE s.w x=0 then doW s.w x else s.w)=true):=by
    have h1:=HIw.o
    rw[aW gm,<- Hx.o] at h1
    exact b0v h1
   have WJ:Qi (Vk (k+1) (Va k s x) (l.drop (k+1))=sE):=by
    have h1:=HrE.o
    rw[aW gm,<- Hx.o] at h1
    exact h1
   have QE:=gu.size
   have vH:Qi (Below lo w w3):=uo.o.trans (gu.mono (by have:=uo.o.size;have:=PE.o;omega))
   have hl300:=Hl.o
   have hN1:=HN.o.1;have hN2:=HN.o.2.1;have ZK:=HN.o.2.2
   clear HrE hE
   by_cases lh:E=0
   rotate_left
   ·have h':(E==0)=false:=by simpa using lh
    obtain⟨_,_,_,_,_,_,_,_,_,_,_,rfl,-⟩:=uB
    have H4:Qi (∀ o:Obj,Cs lo a b (w3.alloc o) B1 B2 B3 B4 g v1 (Y (some ⟨bP,oP,none⟩) l.length cP) v4 s.said pl s.beg ((w.heap.size,#[Y aS s.w.m.s.length cS,Y aH s.w.m.h.length cH,Y aF s.w.m.f.length cF,Y aL s.w.m.l.length cL,O J s.w.m.w,Y aT s.w.t.length cT]) :: (w.heap.size+1,#[Y none 0 0,Y none 0 0,Y none 0 0,Y none 0 0,O J 0,Y none 0 0]) :: Zx)/\WIn a b (w3.alloc o) (.agg #[Y aS s.w.m.s.length cS,Y aH s.w.m.h.length cH,Y aF s.w.m.f.length cF,Y aL s.w.m.l.length cL,O J s.w.m.w,Y aT s.w.t.length cT]) s.w/\Below lo w (w3.alloc o)/\(w3.alloc o).rangeAt w.heap.size 0 [Y aS s.w.m.s.length cS,Y aH s.w.m.h.length cH,Y aF s.w.m.f.length cF,Y aL s.w.m.l.length cL,O J s.w.m.w,Y aT s.w.t.length cT]/\b<=(w3.alloc o).heap.size/\H8 (w3.alloc o) (some ⟨bP,oP,none⟩) cP l):=fun o =>
     have b4:Below W2.heap.size W2 (w3.alloc o):=gu.alloc gu.size o
     have b5:Below lo w (w3.alloc o):=vH.o.alloc (by have:=vH.o.size;have:=PE.o;omega) o
     ⟨sO.o.below b4,uY.o.same fun j h1 h2=>b4.block j (by have:=rG.o.2.1;omega),b5,Aq ((b4.block _ (fC sZ.o)).trans sZ.o) rfl,by have:=rG.o.2.1;simp;omega,HR.o.low b5 XG.o⟩
    have HIy:Qi (okB (l.drop (k+1)) s.w=true):=by have h1:=XT.o;rw[<- HE.o,ae lh] at h1;exact h1
    rw[show Et s.w x=s.w by unfold Et;rw[<- HE.o,ae lh]] at PD
    have vY:Qi (Va k s x=_):=PD
    have mr:Qi (E≠0):=lh
    clear sO uY sZ uo vH gu PD lh
    go_wp2_with (refine F8 rfl _ rfl rfl (H4.o _).2.2.2.1 ?_)
    refine(a5p lo a b _ B1 B2 B3 B4 g (some ⟨bP,oP,none⟩) cP l v1 v4 s.said pl s.beg _ s.w _ k E (H4.o _).1 (H4.o _).2.2.2.2.1 (H4.o _).2.2.2.2.2 XG.o gm (by omega) (by omega) (H4.o _).2.1 (fun h=>(mr.o h).elim) ZK).mono ?_
    rintro e w5 ⟨xY,QD,NG,rfl,OV,wF,tY,TQ⟩
    rw[<- Hx.o] at OV wF
    have zB:Qi (WIn a b w5 (.agg #[Y aS s.w.m.s.length cS,Y aH s.w.m.h.length cH,Y aF s.w.m.f.length cF,Y aL s.w.m.l.length cL,O J s.w.m.w,Y aT s.w.t.length cT]) s.w/\Below lo w w5/\b<=w5.heap.size):=⟨(H4.o _).2.1.same TQ,(H4.o _).2.2.1.trans tY,by have:=(H4.o (.cells #[] 0)).2.2.2.2.1;have:=tY.size;simp at *;omega⟩
    have KT:Qi (Cs lo a b w5 B1 B2 B3 B4 g xY (Y (some ⟨bP,oP,none⟩) l.length cP) QD (s.said ++ [E]) NG (Vf x E k s.beg) ((w.heap.size,#[Y aS s.w.m.s.length cS,Y aH s.w.m.h.length cH,Y aF s.w.m.f.length cF,Y aL s.w.m.l.length cL,O J s.w.m.w,Y aT s.w.t.length cT]) :: (w.heap.size+1,#[Y none 0 0,Y none 0 0,Y none 0 0,Y none 0 0,O J 0,Y none 0 0]) :: Zx)):=OV
    have XL:Qi (NG.map (·.1)=Vg x E k s.beg s.w (pl.map (·.1))):=wF
    clear OV wF tY TQ H4
    go_wp2
    go_roundw
    case rel=>exact⟨k+1,Va k s x,a,b,xY,QD,NG,aS,aH,aF,aL,cS,cH,cF,cL,aT,cT,by omega,by go_num,WJ,by rw[vY.o];exact HIy,by rw[vY.o];exact KT,by rw[vY.o];exact(XL.o.trans (by rw[XK.o])),by rw[vY.o];exact zB.o.1,zB.o.2.1,⟨rG.o.1,zB.o.2.2⟩,by rw[vY.o];exact⟨by simp[hN1],by have:=congrArg List.length XL.o;rw[kN] at this;have:=a1n x E k s.beg s.w (pl.map (·.1));rw[kN] at this;omega,(a1m x E k s.beg).trans ZK⟩⟩
    case measure=>simp[intOf];omega
   ·have HdE:Qi (doE s.w x=0):=HE.o.symm.trans lh
    rw[af lh] at uB
    obtain⟨W',wo⟩:∃ W',W'=doW s.w x:=⟨_,rfl⟩
    rw[<- wo] at uB
    rw[show Et s.w x=W' by unfold Et;rw[HdE.o,af rfl,wo]] at PD
    have HW':Qi (W'=doW s.w x):=wo
    have xX:Qi (okB (l.drop (k+1)) W'=true):=by have h1:=XT.o;rw[af HdE.o] at h1;show _=_;rw[wo];exact h1
    have RY:Qi (W'.t.length=s.w.t.length/\(x.tick=false->0<=x.s/\x.s<s.w.t.length)):=by have:=b5o HdE.o;rw[<- wo] at this;exact this
    have vY:Qi (Va k s x=_):=PD
    clear wo PD
    subst lh
    obtain⟨DD,DI,DJ,DF,CV,CX,CY,CW,DC,CU,lt1,rfl,-⟩:=id uB
    obtain⟨oq,hoq⟩:∃ o:Obj,o=.cells #[Y DD W'.m.s.length CV,Y DI W'.m.h.length CX,Y DJ W'.m.f.length CY,Y DF W'.m.l.length CW,O J W'.m.w,Y DC W'.t.length CU] 28:=⟨_,rfl⟩
    have b4:Below W2.heap.size W2 (w3.alloc oq):=gu.alloc gu.size oq
    have WR:Qi ((w3.alloc oq).heap[w3.heap.size]?=some oq):=fP _ _
    have ZI:(w3.alloc oq).heap[w.heap.size]?=some (.cells #[Y aS s.w.m.s.length cS,Y aH s.w.m.h.length cH,Y aF s.w.m.f.length cF,Y aL s.w.m.l.length cL,O J s.w.m.w,Y aT s.w.t.length cT] 28 (0,0)):=(b4.block _ (fC sZ.o)).trans sZ.o
    have ZO:Cs lo W2.heap.size w3.heap.size (w3.alloc oq) B1 B2 B3 B4 g v1 (Y (some ⟨bP,oP,none⟩) l.length cP) v4 s.said pl s.beg ((w.heap.size,#[Y aS s.w.m.s.length cS,Y aH s.w.m.h.length cH,Y aF s.w.m.f.length cF,Y aL s.w.m.l.length cL,O J s.w.m.w,Y aT s.w.t.length cT]) :: (w.heap.size+1,#[Y none 0 0,Y none 0 0,Y none 0 0,Y none 0 0,O J 0,Y none 0 0]) :: Zx):=((sO.o.turn w3.heap.size).below b4)
    have tK:WIn W2.heap.size w3.heap.size (w3.alloc oq) (.agg #[Y DD W'.m.s.length CV,Y DI W'.m.h.length CX,Y DJ W'.m.f.length CY,Y DF W'.m.l.length CW,O J W'.m.w,Y DC W'.t.length CU]) W':=uB.wIn.same fun j h1 h2=>(A7 _ _).block j h2
    have FH:Qi (Below lo w (w3.alloc oq)):=vH.o.alloc (by have:=vH.o.size;have:=PE.o;omega) oq
    have t8:Qi ((w3.alloc oq).there w.heap.size 0 6):=Be ZI (by simp)
    obtain⟨W5,CS⟩:∃ W5,W5=(w3.alloc oq).setCells w.heap.size 0 [Y DD W'.m.s.length CV,Y DI W'.m.h.length CX,Y DJ W'.m.f.length CY,Y DF W'.m.l.length CW,O J W'.m.w,Y DC W'.t.length CU]:=⟨_,rfl⟩
    have uQ:∀ j,j≠w.heap.size->W5.heap[j]?=(w3.alloc oq).heap[j]?:=fun j hj=>by rw[CS];exact Af hj _ _ _
    have hX5:W5.heap[w.heap.size]?=some (.cells #[Y DD W'.m.s.length CV,Y DI W'.m.h.length CX,Y DJ W'.m.f.length CY,Y DF W'.m.l.length CW,O J W'.m.w,Y DC W'.t.length CU] 28 (0,0)):=by rw[CS];exact Bi ZI rfl
    have hs5:W5.heap.size=w3.heap.size+1:=by rw[CS,setCells_size];simp
    have KT:Qi (Cs lo W2.heap.size w3.heap.size W5 B1 B2 B3 B4 g v1 (Y (some ⟨bP,oP,none⟩) l.length cP) v4 s.said pl s.beg ((w.heap.size,#[Y DD W'.m.s.length CV,Y DI W'.m.h.length CX,Y DJ W'.m.f.length CY,Y DF W'.m.l.length CW,O J W'.m.w,Y DC W'.t.length CU]) :: (w.heap.size+1,#[Y none 0 0,Y none 0 0,Y none 0 0,Y none 0 0,O J 0,Y none 0 0]) :: Zx)):=by
     have hY4:=ZO.z (w.heap.size+1,#[Y none 0 0,Y none 0 0,Y none 0 0,Y none 0 0,O J 0,Y none 0 0]) (.tail _ (.head _))
     have h2:=(ZO.more (Z':=Zx) (fun q hq=>ZO.z q (.tail _ (.tail _ hq)))).off ZI uQ (fun q hq=>by have:=HZx.o q hq;omega)
     refine h2.more fun q hq=>?_
     simp only[aZ] at hq
     rcases hq with rfl|rfl|hq
     ·exact hX5
     ·exact(uQ _ (by omega)).trans hY4
     ·exact h2.z q hq
    have hzx:=rG.o.2.2
    have PM:Qi (WIn W2.heap.size w3.heap.size W5 (.agg #[Y DD W'.m.s.length CV,Y DI W'.m.h.length CX,Y DJ W'.m.f.length CY,Y DF W'.m.l.length CW,O J W'.m.w,Y DC W'.t.length CU]) W'):=tK.same fun j h1 h2=>uQ j (by omega)
    have JX:Qi (Below lo w W5):=by show Below lo w W5;rw[CS];exact Bd FH.o PE.o
    have l9:Qi (W5.rangeAt w.heap.size 0 [Y DD W'.m.s.length CV,Y DI W'.m.h.length CX,Y DJ W'.m.f.length CY,Y DF W'.m.l.length CW,O J W'.m.w,Y DC W'.t.length CU]):=Aq hX5 rfl
    have DK:Qi (H8 W5 (some ⟨bP,oP,none⟩) cP l):=HR.o.low JX.o XG.o
    have GU:Qi (w.heap.size+1<W2.heap.size/\w3.heap.size<=W5.heap.size):=⟨hzx,by omega⟩
    subst hoq
    have l7:Qi ((w3.alloc (.cells #[Y DD W'.m.s.length CV,Y DI W'.m.h.length CX,Y DJ W'.m.f.length CY,Y DF W'.m.l.length CW,O J W'.m.w,Y DC W'.t.length CU] 28)).rangeAt w3.heap.size 0 [Y DD W'.m.s.length CV,Y DI W'.m.h.length CX,Y DJ W'.m.f.length CY,Y DF W'.m.l.length CW,O J W'.m.w,Y DC W'.t.length CU]):=Aq WR.o rfl
    clear sO uY sZ uo vH gu ZI ZO tK FH uQ hX5 WR uB b4
    go_wp2_with (first|refine F8 rfl _ rfl rfl l7.o ?_|(refine Iu rfl _ _ rfl rfl rfl t8.o (by kernel_rfl) ?_;rw[<- CS];clear CS t8 l7)|refine F8 rfl _ rfl rfl l9.o ?_)
    refine(a5p lo W2.heap.size w3.heap.size W5 B1 B2 B3 B4 g (some ⟨bP,oP,none⟩) cP l v1 v4 s.said pl s.beg _ W' _ k 0 KT.o GU.o.2 DK.o XG.o gm (by omega) (by omega) PM.o (fun _ h=>by rw[<- Hx.o] at h ⊢;rw[RY.o.1];exact RY.o.2 h) (ZK.trans RY.o.1.symm)).mono ?_
    rintro e w6 ⟨xY,QD,NG,rfl,OV,wF,tY,TQ⟩
    rw[<- Hx.o] at OV wF
    have zB:Qi (WIn W2.heap.size w3.heap.size w6 (.agg #[Y DD W'.m.s.length CV,Y DI W'.m.h.length CX,Y DJ W'.m.f.length CY,Y DF W'.m.l.length CW,O J W'.m.w,Y DC W'.t.length CU]) W'/\Below lo w w6/\w3.heap.size<=w6.heap.size):=⟨PM.o.same TQ,JX.o.trans tY,by have:=GU.o.2;have:=tY.size;omega⟩
    have HC6:Qi (Cs lo W2.heap.size w3.heap.size w6 B1 B2 B3 B4 g xY (Y (some ⟨bP,oP,none⟩) l.length cP) QD (s.said ++ [0]) NG (Vf x 0 k s.beg) ((w.heap.size,#[Y DD W'.m.s.length CV,Y DI W'.m.h.length CX,Y DJ W'.m.f.length CY,Y DF W'.m.l.length CW,O J W'.m.w,Y DC W'.t.length CU]) :: (w.heap.size+1,#[Y none 0 0,Y none 0 0,Y none 0 0,Y none 0 0,O J 0,Y none 0 0]) :: Zx)):=OV
    have XL:Qi (NG.map (·.1)=Vg x 0 k s.beg W' (pl.map (·.1))):=wF
    clear OV wF tY TQ KT PM JX l9 DK
    go_wp2
    go_roundw
    case rel=>exact⟨k+1,Va k s x,W2.heap.size,w3.heap.size,xY,QD,NG,DD,DI,DJ,DF,CV,CX,CY,CW,DC,CU,by omega,by go_num,WJ,by rw[vY.o];exact xX,by rw[vY.o];exact HC6,by rw[vY.o];exact(XL.o.trans (by rw[XK.o])),by rw[vY.o];exact zB.o.1,zB.o.2.1,⟨GU.o.1,zB.o.2.2⟩,by rw[vY.o];exact⟨by simp[hN1],by have:=congrArg List.length XL.o;rw[kN] at this;have:=a1n x 0 k s.beg W' (pl.map (·.1));rw[kN] at this;omega,(a1m x 0 k s.beg).trans (ZK.trans RY.o.1.symm)⟩⟩
    case measure=>simp[intOf];omega
  ·have QL:k=l.length:=by omega
   have FD:Qi (s=sE):=by
    have h1:=HrE.o
    rw[QL,List.drop_length] at h1
    exact h1
   have l6:Qi (wr.rangeAt w.heap.size 0 [Y aS s.w.m.s.length cS,Y aH s.w.m.h.length cH,Y aF s.w.m.f.length cF,Y aL s.w.m.l.length cL,O J s.w.m.w,Y aT s.w.t.length cT]):=Aq WS.o rfl
   have t6:Qi (wr.there (w.heap.size+1) 0 6):=Be RP.o (by simp)
   obtain⟨W5,CS⟩:∃ W5,W5=wr.setCells (w.heap.size+1) 0 [Y aS s.w.m.s.length cS,Y aH s.w.m.h.length cH,Y aF s.w.m.f.length cF,Y aL s.w.m.l.length cL,O J s.w.m.w,Y aT s.w.t.length cT]:=⟨_,rfl⟩
   have uQ:∀ j,j≠w.heap.size+1->W5.heap[j]?=wr.heap[j]?:=fun j hj=>by rw[CS];exact Af hj _ _ _
   have GX:Qi (W5.heap[w.heap.size+1]?=some (.cells #[Y aS s.w.m.s.length cS,Y aH s.w.m.h.length cH,Y aF s.w.m.f.length cF,Y aL s.w.m.l.length cL,O J s.w.m.w,Y aT s.w.t.length cT] 28 (0,0))):=by show _=_;rw[CS];exact Bi RP.o rfl
   have KT:Qi (Cs lo 0 0 W5 B1 B2 B3 B4 g v1 (Y aP l.length cP) v4 s.said pl s.beg Zx):=(HC.o.wide.more (Z':=Zx) (fun q hq=>HC.o.z q (.tail _ (.tail _ hq)))).off RP.o uQ (fun q hq=>by have:=HZx.o q hq;omega)
   have PM:Qi (Di w.heap.size W5 (.agg #[Y aS s.w.m.s.length cS,Y aH s.w.m.h.length cH,Y aF s.w.m.f.length cF,Y aL s.w.m.l.length cL,O J s.w.m.w,Y aT s.w.t.length cT]) s.w):=(KA.o W5 fun j h1 h2=>uQ j (by have:=HZ.o.1;omega)).mono (by have:=HZ.o.1;omega)
   have JX:Qi (Below lo w W5):=by show Below lo w W5;rw[CS];exact Bd Hb.o (by have:=PE.o;omega)
   clear uQ HC KA Hb WS RP HrE
   go_wp2_with (first|refine F8 rfl _ rfl rfl l6.o ?_|(refine Iu rfl _ _ rfl rfl rfl t6.o (by kernel_rfl) ?_;rw[<- CS];clear CS t6 l6))
   exact bodyPost_ret (results_cell_row results79 _ _ (w.heap.size+1) 28 _ (0,0) _ rfl GX.o underlying28 rfl (by kernel_rfl)) rfl ⟨_,v1,v4,pl,rfl,by rw[<- FD.o];exact KT.o,by rw[<- FD.o];exact XK.o,by rw[<- FD.o];exact PM.o,JX.o⟩
theorem a7l:(madeCells (Value.int .i64 0).cells (n*1))=(encI ((aQ n 0).map Int.ofNat)).toArray:=by
 apply Array.ext'
 rw[Nat.mul_one]
 apply List.ext_getElem?
 intro j
 by_cases hj:j<n
 ·simp[madeCells,encI,hj,Value.cells,Nat.mod_one]
 ·rw[List.getElem?_eq_none (by simp[madeCells];omega),List.getElem?_eq_none (by simp[encI];omega)]
theorem Qp{W:Wq}{n B i:Nat}{cs:Array dU}{t:dX}{v:dU}(h:W.heap[B]?=some (.cells cs t (0,0)))(hv:cs[i]?=some v):Below n W (W.setCell ⟨B,i,none⟩ v):=by
 have h1:(W.setCell ⟨B,i,none⟩ v).heap[B]?=W.heap[B]?:=by
  rw[block_setCell (i:=i) h,h]
  congr 2
  apply Array.ext'
  have hi:=(Array.getElem?_eq_some_iff.1 hv).1
  have he:=(Array.getElem?_eq_some_iff.1 hv).2
  apply List.ext_getElem?
  intro j
  by_cases e:i=j
  ·subst e;simp[hi,he]
  ·simp[e]
 have h2:Below 0 W (W.setCell ⟨B,i,none⟩ v):=(dK 0 W).setCell (Nat.zero_le _) v
 refine⟨h2.os,h2.tape,h2.output,h2.size,fun k _=>?_⟩
 by_cases e:k=B
 ·subst e;exact h1
 ·exact Below.heap_setCell _ _ _ _ (by dsimp only;exact e)
theorem Og{B:Nat}{t:dX}{cs:Array dU}{n:Nat}:∀ (vs:List dU) (o:Nat) (W:Wq),W.heap[B]?=some (.cells cs t (0,0))->(∀ j,j<vs.length->cs[o+j]?=vs[j]?)->Below n W (W.setCells B o vs)
 | [],o,W,_,_=>dK _ _
 | v :: vs,o,W,h,hv=>by
  have h1:∀ m,Below m W (W.setCell ⟨B,o,none⟩ v):=fun m=>Qp h (by have:=hv 0 (by simp);simpa using this)
  have h2:(W.setCell ⟨B,o,none⟩ v).heap[B]?=some (.cells cs t (0,0)):=((h1 W.heap.size).block _ (fC h)).trans h
  have h3:=Og (n:=n) vs (o+1) (W.setCell ⟨B,o,none⟩ v) h2 (fun j hj=>by have:=hv (j+1) (by simp;omega);rw[show o+1+j=o+(j+1) by omega];simpa using this)
  exact(h1 n).trans h3
theorem Wh{B:Nat}{t:dX}{vs:List dU}{cs:Array dU}{n:Nat}{W:Wq}(h:W.heap[B]?=some (.cells cs t (0,0)))(e:cs=vs.toArray):Below n W (W.setCells B 0 vs) :=
 Og vs 0 W h fun j _=>by rw[e];simp
def Vx(x:Nat->dU):Act:=⟨#[x 0,x 1,x 2,x 3,x 4,x 5,x 6,x 7,x 8,x 9,x 10,x 11,x 12,x 13,x 14,x 15,x 16,x 17,x 18,x 19,x 20,x 21,x 22,x 23,x 24,x 25,x 26,x 27,x 28,x 29,x 30],[]⟩
def RunP(w:Wq)(s:Rs)(e:Ending)(w':Wq):Prop :=
 ∃ v v1 v4 pl,e=.returned (.tuple #[v,v1,v4,O J 0])/\Di w.heap.size w' v s.w/\w'.ownsRow w.heap.size 36 1 v1 s.said.length (encI s.said)/\w'.ownsRow w.heap.size 78 13 v4 pl.length (a6s pl)/\(∀ q∈pl,Ea w' w.heap.size q.2.1 q.2.2 q.1.t)/\pl.map (·.1)=s.past/\Below w.heap.size w w'
theorem b6u(w:Wq)(hv:Di 0 w v W)(hr:H8 w aP cP l)(hl:l.length<=300)(I:okB l W=true) :
  aI Pg 35 #[v,Y aP l.length cP] w (RunP w (Vk 0 (rs0 W) l)):=by
 have m1:=hr.max
 have hnt:1<=W.t.length/\W.t.length<=5:=⟨(Ko.1 (a1s I)).2.1,(Ko.1 (a1s I)).2.2.1⟩
 have uK:0<l.length->∀ ad,aP=some ad->ad.block<w.heap.size:=fun h0 ad e=>by
  rcases hr.at_ with h|⟨b,o,rfl,hc⟩
  ·omega
  ·cases e
   exact cell_lt (hc 0 h0 0 _ rfl)
 have HI:Qi (okB l W=true):=I
 have HV:Qi (Di 0 w v W):=hv
 have HR:Qi (H8 w aP cP l):=hr
 have RU:Qi (0<l.length->∀ ad,aP=some ad->ad.block<w.heap.size):=uK
 obtain⟨sE,NS⟩:∃ sE:Rs,sE=Vk 0 (rs0 W) l:=⟨_,rfl⟩
 rw[<- NS]
 have FD:Qi (sE=Vk 0 (rs0 W) l):=NS
 obtain⟨aS,aH,aF,aL,cS,cH,cF,cL,aT,cT,lt,rfl,-⟩:=id hv
 obtain⟨o0,YZ⟩:∃ o:Obj,o=.cells #[Y aS W.m.s.length cS,Y aH W.m.h.length cH,Y aF W.m.f.length cF,Y aL W.m.l.length cL,O J W.m.w,Y aT W.t.length cT] 28:=⟨_,rfl⟩
 obtain⟨o1,vC⟩:∃ o:Obj,o=.cells #[Y aP l.length cP] 54:=⟨_,rfl⟩
 obtain⟨o2,jk⟩:∃ o:Obj,o=.cells #[Y none 0 0,Y none 0 0,Y none 0 0,Y none 0 0,O J 0,Y none 0 0] 28:=⟨_,rfl⟩
 obtain⟨o3,AZ⟩:∃ o:Obj,o=.cells #[Y none 0 0] 68:=⟨_,rfl⟩
 obtain⟨o4,wG⟩:∃ o:Obj,o=.cells #[Y none 0 0] 69:=⟨_,rfl⟩
 have mr:Qi (Env w (((((w.alloc o0).alloc o1).alloc o2).alloc o3).alloc o4) [(w.heap.size+4,o4),(w.heap.size+3,o3),(w.heap.size+2,o2),(w.heap.size+1,o1),(w.heap.size,o0)] []):=by
  have h:=(((((⟨dK _ _,(fun p hp=>by cases hp),(fun p hp=>by cases hp)⟩:Env w w [] []).alloc o0).alloc o1).alloc o2).alloc o3).alloc o4
  rw[show (w.alloc o0).heap.size=w.heap.size+1 by simp,show ((w.alloc o0).alloc o1).heap.size=w.heap.size+2 by simp,show (((w.alloc o0).alloc o1).alloc o2).heap.size=w.heap.size+3 by simp,show ((((w.alloc o0).alloc o1).alloc o2).alloc o3).heap.size=w.heap.size+4 by simp] at h
  exact h
 clear I hv hr uK NS
 go_enter func35,ntmps35
 have l6:Qi ((((((w.alloc (.cells #[Y aS W.m.s.length cS,Y aH W.m.h.length cH,Y aF W.m.f.length cF,Y aL W.m.l.length cL,O J W.m.w,Y aT W.t.length cT] 28)).alloc (.cells #[Y aP l.length cP] 54)).alloc (.cells #[Y none 0 0,Y none 0 0,Y none 0 0,Y none 0 0,O J 0,Y none 0 0] 28)).alloc (.cells #[Y none 0 0] 68)).alloc (.cells #[Y none 0 0] 69)).rangeAt w.heap.size 0 [Y aS W.m.s.length cS,Y aH W.m.h.length cH,Y aF W.m.f.length cF,Y aL W.m.l.length cL,O J W.m.w,Y aT W.t.length cT]):=by subst YZ vC jk AZ wG;exact Aq (mr.o.box _ (.tail _ (.tail _ (.tail _ (.tail _ (.head _)))))) rfl
 go_wp2_with (refine F8 rfl _ rfl rfl l6.o ?_)
 rw[<- YZ,<- vC,<- jk,<- AZ,<- wG]
 rw[<- YZ,<- vC,<- jk,<- AZ,<- wG] at l6
 clear l6
 generalize ((((w.alloc o0).alloc o1).alloc o2).alloc o3).alloc o4=W0 at *
 refine(a5g (a1s HI.o) (HV.o.below mr.o.bl)).mono ?_
 rintro e w1 ⟨rfl,bu⟩
 have gp:Qi (Env w w1 [(w.heap.size+4,o4),(w.heap.size+3,o3),(w.heap.size+2,o2),(w.heap.size+1,o1),(w.heap.size,o0)] []):=mr.o.below bu
 clear mr bu
 subst YZ vC jk AZ wG
 obtain⟨n,hn⟩:∃ n,n=W.t.length:=⟨_,rfl⟩
 have Hn:Qi (n=W.t.length):=hn
 obtain⟨G,hG⟩:∃ G:Array dU,G=(encI ((aQ n 0).map Int.ofNat)).toArray:=⟨_,rfl⟩
 obtain⟨i0,uS,ng,qj,pq⟩:=info_parts iI
 have hmk:∀ V:Wq,(Instr.makeSlice 23 (O J (W.t.length:Int)) (O J (W.t.length:Int))).run Pg V=.ok (Y (some ⟨V.heap.size,0,none⟩) W.t.length W.t.length) (V.alloc (.cells G 3)):=fun V=>by
  have h:=run_make (P:=Pg) V 23 3 i0 _ underlying23 uS ng .i64 .i64 (W.t.length:Int) (W.t.length:Int) (by omega) (Int.le_refl _) (by rw[pq];omega) (by omega)
  simp only[Int.toNat_natCast,qj] at h
  rw[hG,hn,<- a7l];exact h
 have HG:Qi (G=(encI ((aQ n 0).map Int.ofNat)).toArray):=hG
 have uu:=gp.o.box (w.heap.size,_) (.tail _ (.tail _ (.tail _ (.tail _ (.head _)))))
 obtain⟨q1,f1,s1⟩:=Aw (gp.o.box (w.heap.size+1,_) (.tail _ (.tail _ (.tail _ (.head _)))))
 obtain⟨z0,z1,z2,z3,z4,z5,zs⟩:=Bh uu
 obtain⟨oB,hoB⟩:∃ o:Obj,o=.cells #[Y (some ⟨w1.heap.size,0,none⟩) W.t.length W.t.length] 23:=⟨_,rfl⟩
 have ai:Qi (Env w ((w1.alloc (.cells G 3)).alloc oB) [(w1.heap.size+1,oB),(w1.heap.size,.cells G 3),(w.heap.size+4,.cells #[Y none 0 0] 69),(w.heap.size+3,.cells #[Y none 0 0] 68),(w.heap.size+2,.cells #[Y none 0 0,Y none 0 0,Y none 0 0,Y none 0 0,O J 0,Y none 0 0] 28),(w.heap.size+1,.cells #[Y aP l.length cP] 54),(w.heap.size,.cells #[Y aS W.m.s.length cS,Y aH W.m.h.length cH,Y aF W.m.f.length cF,Y aL W.m.l.length cL,O J W.m.w,Y aT W.t.length cT] 28)] []):=by
  have h:=(gp.o.alloc (.cells G 3)).alloc oB
  rw[show (w1.alloc (.cells G 3)).heap.size=w1.heap.size+1 by simp] at h
  exact h
 obtain⟨W2,tu⟩:∃ W2,W2=(w1.alloc (.cells G 3)).alloc oB:=⟨_,rfl⟩
 rw[<- tu] at ai
 rw[hoB] at tu ai
 have hz1':w.heap.size<=w1.heap.size:=gp.o.bl.size
 have l6:Qi (W2.rangeAt w.heap.size 0 [Y aS W.m.s.length cS,Y aH W.m.h.length cH,Y aF W.m.f.length cF,Y aL W.m.l.length cL,O J W.m.w,Y aT W.t.length cT]):=Aq (ai.o.box (w.heap.size,_) (.tail _ (.tail _ (.tail _ (.tail _ (.tail _ (.tail _ (.head _)))))))) rfl
 have q1':=(Aw (ai.o.box (w.heap.size+1,_) (.tail _ (.tail _ (.tail _ (.tail _ (.tail _ (.head _)))))))).1
 have sO:Qi (Cs w.heap.size 0 0 W2 (w.heap.size+3) (w.heap.size+1) (w1.heap.size+1) (w.heap.size+4) w1.heap.size (Y none 0 0) (Y aP l.length cP) (Y none 0 0) [] [] (aQ W.t.length 0) [(w.heap.size+2,#[Y none 0 0,Y none 0 0,Y none 0 0,Y none 0 0,O J 0,Y none 0 0])]):=by
  have hz:∀ k,Out 0 0 k:=fun k hx=>by have:=hx.2;omega
  refine⟨ai.o.box (w.heap.size+3,_) (.tail _ (.tail _ (.tail _ (.head _)))),World.ownsRow_nil _ _ _ _,fun k _=>hz k,?_,?_,hz _,ai.o.box (w.heap.size+4,_) (.tail _ (.tail _ (.head _))),World.ownsRow_nil _ _ _ _,fun k _=>hz k,fun q hq=>(by cases hq),⟨by omega,hz _⟩,⟨by omega,hz _⟩,⟨by omega,hz _⟩,by omega,ai.o.box (w.heap.size+1,_) (.tail _ (.tail _ (.tail _ (.tail _ (.tail _ (.head _)))))),⟨by omega,hz _⟩,?_⟩
  ·rw[List.length_replicate];exact ai.o.box (w1.heap.size+1,_) (.head _)
  ·rw[<- Hn.o,<- HG.o];exact ai.o.box (w1.heap.size,_) (.tail _ (.head _))
  ·intro q hq
   rw[List.mem_singleton] at hq
   subst hq
   exact ai.o.box (w.heap.size+2,_) (.tail _ (.tail _ (.tail _ (.tail _ (.head _)))))
 have uo:Qi (Below w.heap.size w W2):=ai.o.bl
 clear hoB hG hn uS ng qj pq gp ai uu Hn HG
 have vF:(l.length:Int)<=300:=by omega
 go_wp2_with (first|(rw[<- tu];refine F8 rfl _ rfl rfl l6.o ?_)|refine F8 rfl _ rfl rfl l6.o ?_)
 rw[<- tu]
 clear tu l6 hmk z0 z1 z2 z3 z4 z5 zs q1 f1 s1 q1'
 refine(a3g w.heap.size W2 (w.heap.size+3) (w.heap.size+1) (w1.heap.size+1) (w.heap.size+4) w1.heap.size aP cP l _ _ (aQ W.t.length 0) _ W _ HI.o (HV.o.below uo.o) sO.o (HR.o.below uo.o) RU.o hl (by simp) uo.o.size).mono ?_
 rintro e w3 ⟨v3,v1,v4,pl,rfl,ZP,YX,uB,gu⟩
 rw[show Vk 0 ⟨W,[],[],aQ W.t.length 0⟩ l=sE from FD.o.symm] at ZP YX uB
 obtain⟨sH,sK,sN,sJ,rZ,sD,sG,su,sW,sV,lt3,rfl,-⟩:=id uB
 have ZJ:=ZP.z (w.heap.size+2,#[Y none 0 0,Y none 0 0,Y none 0 0,Y none 0 0,O J 0,Y none 0 0]) (.head _)
 have t6:Qi (w3.there (w.heap.size+2) 0 6):=Be ZJ (by simp)
 have hz4:w.heap.size+4<W2.heap.size:=fC sO.o.p
 have b3:Below w.heap.size w w3:=uo.o.trans gu
 obtain⟨W4,tK⟩:∃ W4,W4=w3.setCells (w.heap.size+2) 0 [Y sH sE.w.m.s.length rZ,Y sK sE.w.m.h.length sD,Y sN sE.w.m.f.length sG,Y sJ sE.w.m.l.length su,O J sE.w.m.w,Y sW sE.w.t.length sV]:=⟨_,rfl⟩
 have wG:∀ j,j≠w.heap.size+2->W4.heap[j]?=w3.heap[j]?:=fun j hj=>by rw[tK];exact Af hj _ _ _
 have JY:Qi (W4.heap[w.heap.size+2]?=some (.cells #[Y sH sE.w.m.s.length rZ,Y sK sE.w.m.h.length sD,Y sN sE.w.m.f.length sG,Y sJ sE.w.m.l.length su,O J sE.w.m.w,Y sW sE.w.t.length sV] 28 (0,0))):=by show _=_;rw[tK];exact Bi ZJ rfl
 have BR:Qi (Cs w.heap.size 0 0 W4 (w.heap.size+3) (w.heap.size+1) (w1.heap.size+1) (w.heap.size+4) w1.heap.size v1 (Y aP l.length cP) v4 sE.said pl sE.beg []):=(ZP.more (Z':=[]) (fun q hq=>by cases hq)).off ZJ wG (fun q hq=>by cases hq)
 obtain⟨a1,k1,rfl⟩:=Bg BR.o.so
 obtain⟨a4,k4,rfl⟩:=Bg BR.o.po
 have HV4:Qi (Di W2.heap.size W4 (.agg #[Y sH sE.w.m.s.length rZ,Y sK sE.w.m.h.length sD,Y sN sE.w.m.f.length sG,Y sJ sE.w.m.l.length su,O J sE.w.m.w,Y sW sE.w.t.length sV]) sE.w):=uB.win fun k h1 h2=>wG k (by omega)
 have FH:Qi (Below w.heap.size w W4):=by show Below w.heap.size w W4;rw[tK];exact Bd b3 (by omega)
 have XK:Qi (pl.map (·.1)=sE.past):=YX
 clear ZP YX uB gu b3 wG ZJ sO uo HV HR
 go_wp2_with (refine Iu rfl _ _ rfl rfl rfl t6.o (by kernel_rfl) ?_;rw[<- tK];clear tK t6)
 rename_i K0 qO
 refine Y0 (by kernel_rfl) Vx rfl [28,29,30,100,101,102,7] (by decide) rfl (by kernel_rfl) (fun i v _=>(i=0->v=.agg #[Y sH sE.w.m.s.length rZ,Y sK sE.w.m.h.length sD,Y sN sE.w.m.f.length sG,Y sJ sE.w.m.l.length su,O J sE.w.m.w,Y sW sE.w.t.length sV])/\(i=1->v=Y a1 sE.said.length k1)/\(i=2->v=Y a4 pl.length k4)/\(i=6->v=O J 0)) (fun i v w w' h _=>h) ?_ ?_
 ·intro i hi x V hb ku az
  have uN:i<7:=hi
  clear hi
  have VD:=(hb.block _ (fC JY.o)).trans JY.o
  have IE:=BR.o.below hb
  obtain⟨y0,y1,y2,y3,y4,y5,ys⟩:=Bh VD
  obtain⟨c1,d1,-⟩:=Aw IE.s
  obtain⟨c4,d4,-⟩:=Aw IE.p
  have x4:x 4=.pointer (some ⟨w.heap.size+2,0,none⟩):=ku 4 (by decide)
  have x5:x 5=.pointer (some ⟨w.heap.size+3,0,none⟩):=ku 5 (by decide)
  have x6:x 6=.pointer (some ⟨w.heap.size+4,0,none⟩):=ku 6 (by decide)
  obtain rfl|rfl|rfl|rfl|rfl|rfl|rfl:i=0\/i=1\/i=2\/i=3\/i=4\/i=5\/i=6:=by omega
  ·exact Ad rfl (Ag rfl) (v:=.agg #[Y sH sE.w.m.s.length rZ,Y sK sE.w.m.h.length sD,Y sN sE.w.m.f.length sG,Y sJ sE.w.m.l.length su,O J sE.w.m.w,Y sW sE.w.t.length sV]) (w':=V) (by simp[kD,go_sem,(show (Vx x).tmps[4]?.getD Uz=_ from x4),y0,y1,y2,y3,y4,y5]) ⟨_,rfl,⟨fun _=>rfl,(fun h=>absurd h (by decide)),(fun h=>absurd h (by decide)),(fun h=>absurd h (by decide))⟩,dK _ _⟩
  ·exact Ad rfl (Ag rfl) (v:=Y a1 sE.said.length k1) (w':=V) (by simp[kD,go_sem,(show (Vx x).tmps[5]?.getD Uz=_ from x5),c1]) ⟨_,rfl,⟨(fun h=>absurd h (by decide)),fun _=>rfl,(fun h=>absurd h (by decide)),(fun h=>absurd h (by decide))⟩,dK _ _⟩
  ·exact Ad rfl (Ag rfl) (v:=Y a4 pl.length k4) (w':=V) (by simp[kD,go_sem,(show (Vx x).tmps[6]?.getD Uz=_ from x6),c4]) ⟨_,rfl,⟨(fun h=>absurd h (by decide)),(fun h=>absurd h (by decide)),fun _=>rfl,(fun h=>absurd h (by decide))⟩,dK _ _⟩
  ·have p0:x 28=_:=(az 0 (by kernel_rfl)).1 rfl
   have f0:=fun j=>unfrozen_of_block VD j
   exact Kt rfl (Ag rfl) (w':=V.setCells (w.heap.size+2) 0 [Y sH sE.w.m.s.length rZ,Y sK sE.w.m.h.length sD,Y sN sE.w.m.f.length sG,Y sJ sE.w.m.l.length su,O J sE.w.m.w,Y sW sE.w.t.length sV]) (by simp[kD,go_sem,World.setCells,(show (Vx x).tmps[4]?.getD Uz=_ from x4),(show (Vx x).tmps[28]?.getD Uz=_ from p0),y0,y1,y2,y3,y4,y5,f0]) ⟨Uz,rfl,⟨(fun h=>absurd h (by decide)),(fun h=>absurd h (by decide)),(fun h=>absurd h (by decide)),(fun h=>absurd h (by decide))⟩,Wh VD rfl⟩
  ·have p0:x 29=_:=(az 1 (by kernel_rfl)).2.1 rfl
   exact Kt rfl (Ag rfl) (w':=V.setCell ⟨w.heap.size+3,0,none⟩ (Y a1 sE.said.length k1)) (by simp[kD,go_sem,(show (Vx x).tmps[5]?.getD Uz=_ from x5),(show (Vx x).tmps[29]?.getD Uz=_ from p0),c1,d1]) ⟨Uz,rfl,⟨(fun h=>absurd h (by decide)),(fun h=>absurd h (by decide)),(fun h=>absurd h (by decide)),(fun h=>absurd h (by decide))⟩,Qp IE.s rfl⟩
  ·have p0:x 30=_:=(az 2 (by kernel_rfl)).2.2.1 rfl
   exact Kt rfl (Ag rfl) (w':=V.setCell ⟨w.heap.size+4,0,none⟩ (Y a4 pl.length k4)) (by simp[kD,go_sem,(show (Vx x).tmps[6]?.getD Uz=_ from x6),(show (Vx x).tmps[30]?.getD Uz=_ from p0),c4,d4]) ⟨Uz,rfl,⟨(fun h=>absurd h (by decide)),(fun h=>absurd h (by decide)),(fun h=>absurd h (by decide)),(fun h=>absurd h (by decide))⟩,Qp IE.p rfl⟩
  ·exact Ad rfl (Ag rfl) (v:=O J 0) (w':=V) (by simp[kD,go_sem]) ⟨_,rfl,⟨(fun h=>absurd h (by decide)),(fun h=>absurd h (by decide)),(fun h=>absurd h (by decide)),fun _=>rfl⟩,dK _ _⟩
 ·intro x V hb ku hφ
  have p7:x 7=O J 0:=(hφ 6 (by decide)).2.2.2 rfl
  have x4:x 4=.pointer (some ⟨w.heap.size+2,0,none⟩):=ku 4 (by decide)
  have x5:x 5=.pointer (some ⟨w.heap.size+3,0,none⟩):=ku 5 (by decide)
  have x6:x 6=.pointer (some ⟨w.heap.size+4,0,none⟩):=ku 6 (by decide)
  have VD:=(hb.block _ (fC JY.o)).trans JY.o
  have IE:Qi _:=BR.o.below hb
  have HVv:Qi (Di w.heap.size V (.agg #[Y sH sE.w.m.s.length rZ,Y sK sE.w.m.h.length sD,Y sN sE.w.m.f.length sG,Y sJ sE.w.m.l.length su,O J sE.w.m.w,Y sW sE.w.t.length sV]) sE.w):=(HV4.o.below hb).mono (by omega)
  have Hbv:Qi (Below w.heap.size w V):=FH.o.trans (hb.mono FH.o.size)
  obtain⟨y0,y1,y2,y3,y4,y5,ys⟩:=Bh VD
  obtain⟨c1,d1,-⟩:=Aw IE.o.s
  obtain⟨c4,d4,-⟩:=Aw IE.o.p
  refine qO _ _ ?_
  unfold Vx
  rw[x4,x5,x6,p7]
  go_wp2
  refine bodyPost_ret (v:=.tuple #[.agg #[Y sH sE.w.m.s.length rZ,Y sK sE.w.m.h.length sD,Y sN sE.w.m.f.length sG,Y sJ sE.w.m.l.length su,O J sE.w.m.w,Y sW sE.w.t.length sV],Y a1 sE.said.length k1,Y a4 pl.length k4,O J 0]) (by simp[results,results35,go_sem,y0,y1,y2,y3,y4,y5,c1,c4]) rfl ?_
  exact⟨_,_,_,pl,rfl,HVv.o,IE.o.so,IE.o.po,fun q hq=>(IE.o.pk q hq).1,XK.o,Hbv.o⟩
theorem Q8{w:Wq}{B:Nat}{p:Pst}{aK:Option Addr}{cK:Nat}(h:w.heap[B]?=some (.cells #[O J p.s,O J p.c.k,O J p.c.a,O J p.c.b,O J p.c.t,O J p.c.q,O J p.c.h,O J p.fro,O J p.to,O J p.e,O J p.h,O J p.n,Y aK p.t.length cK] 78 (0,0))):w.cell? ⟨B,10,none⟩=some (O J p.h)/\w.cell? ⟨B,7,none⟩=some (O J p.fro)/\w.cell? ⟨B,8,none⟩=some (O J p.to)/\w.cell? ⟨B,9,none⟩=some (O J p.e)/\w.cell? ⟨B,1,none⟩=some (O J p.c.k)/\B<w.heap.size :=
 ⟨by rw[dN h];rfl,by rw[dN h];rfl,by rw[dN h];rfl,by rw[dN h];rfl,by rw[dN h];rfl,fC h⟩
theorem a8v{bn:Array Oper}{nz:List Oper}{op:Oper}{a:Act}{w:Wq}{Q:Exit->Act->Wq->Prop}{p:Pst}{aK:Option Addr}{cK:Nat}{B o:Nat}(rY:op.guard=none)(x:Operand)(ho:op.op=.load 78 x)(hx:a.eval x=.pointer (some ⟨B,o,none⟩))(h:w.rangeAt B o (p.enc aK cK))(K:wpList Pg bn Q nz (a.put op.dst (.agg #[O J p.s,O J p.c.k,O J p.c.a,O J p.c.b,O J p.c.t,O J p.c.q,O J p.c.h,O J p.fro,O J p.to,O J p.e,O J p.h,O J p.n,Y aK p.t.length cK])) w):wpList Pg bn Q (op :: nz) a w :=
 wpList_load_mid rY 78 x ho B o hx (p.enc aK cK) _ h underlying78 rfl (by kernel_rfl) K
theorem V9{w w':Wq}{B o:Nat}{vs:List dU}(h:w.rangeAt B o vs)(e:w'.heap[B]?=w.heap[B]?):w'.rangeAt B o vs:=fun j v hv=>(World.cell?_of_block e).trans (h j v hv)
theorem Lp{w w1:Wq}{Z:Nat->Prop}{B o:Nat}{vs:List dU}(h:Fine w w1 Z)(hB:Z B\/w.heap.size<=B):Fine w (w1.setCells B o vs) Z :=
 ⟨(Au _ _ _).1.trans h.os,(Au _ _ _).2.1.trans h.tape,(Au _ _ _).2.2.trans h.output,by rw[setCells_size];exact h.size,fun k h1 h2=>(Af (fun e=>hB.elim (fun hz=>h2 (by rw[e];exact hz)) (fun hz=>by omega)) _ _ _).trans (h.block k h1 h2)⟩
def Dv(x:Mo)(s:Int):Bool:=x.on && x.fl.h==s
def Dc(x:Mo):Bool:=x.on && decide (x.w<x.fl.unt)
def Ph(p:Pst)(x y:Mo):Bool :=
 if p.c.k=1 then (if p.e=0 then (Dv x p.h && Dc x) || (Dv y p.h && Dc y) else !Dc x || !Dc y)
 else if p.c.k=2 then (if p.e=0 then !x.on && Dv y p.h else if p.e=6 then x.on || y.on else true)
 else if p.c.k=3 then (if p.e=0 then x.on && !Dv y x.fl.h else !x.on || !y.on)
 else true
theorem a7f:Dc (b0o X u)=lives X u:=by cases X <;> rfl
theorem b0c:Dv (b0o X u) s=Ji X s:=by cases X <;> rfl
theorem on_of:(b0o X u).on=X.isSome:=by cases X <;> rfl
theorem a8j(m m':Mm):Ph p (N7 m p.c.a p.c.b) (N7 m' p.c.a p.c.b)=U4 p m m':=by
 unfold Ph U4 U3 N7
 generalize ofK (Eb m) p.c.a p.c.b=X
 generalize ofK (Eb m') p.c.a p.c.b=Yq
 simp only[a7f,b0c,on_of]
 by_cases h1:p.c.k=1
 ·by_cases h2:p.e=0
  ·rw[af h1,af h2,af ⟨h1,h2⟩,Bool.and_comm (Ji X p.h),Bool.and_comm (Ji Yq p.h)]
  ·rw[af h1,ae h2,ae (fun h=>h2 h.2),af h1]
 ·by_cases h3:p.c.k=2
  ·by_cases h2:p.e=0
   ·simp only[h3,h2]
    cases X <;> rfl
   ·by_cases h4:p.e=6
    ·simp only[h3,h4];rfl
    ·simp[h3,h2,h4]
  ·by_cases h5:p.c.k=3
   ·by_cases h2:p.e=0
    ·simp only[h5,h2]
     cases X with
     | none=>rfl
     | some f =>
      cases Yq with
      | none=>rfl
      | some g =>
       show (true && !(g.h==f.h))=(true && (false || !(f.h==g.h)))
       rw[show (g.h==f.h)=(f.h==g.h) from BEq.comm]
       rfl
    ·simp only[h5,h2]
     cases X <;> cases Yq <;> rfl
   ·simp[h1,h3,h5]
structure IsF(w:Wq)(v:dU)(p:Mo->Bool):Prop where
 ex:∃ F qy,v=.func (.func F) #[] qy/\(∀ args W,(jI F args).run Pg W=.ok (.enter F args) W)/\∀ W,Below w.heap.size w W->∀ x:Mo,aI Pg F (#[.agg #[.bool x.on,O J x.fl.a,O J x.fl.b,O J x.fl.h,O J x.fl.unt,O J x.w]] ++ qy) W fun e W'=>e=.returned (.bool (p x))/\Below W.heap.size W W'
structure RuF(w:Wq)(v:dU)(p:Mo->Mo->Bool):Prop where
 ex:∃ F qy,v=.func (.func F) #[] qy/\(∀ args W,(jI F args).run Pg W=.ok (.enter F args) W)/\∀ W,Below w.heap.size w W->∀ x y:Mo,aI Pg F (#[.agg #[.bool x.on,O J x.fl.a,O J x.fl.b,O J x.fl.h,O J x.fl.unt,O J x.w],.agg #[.bool y.on,O J y.fl.a,O J y.fl.b,O J y.fl.h,O J y.fl.unt,O J y.w]] ++ qy) W fun e W'=>e=.returned (.bool (p x y))/\Below W.heap.size W W'
theorem Xd(w:Wq):aI Pg 148 #[.agg #[.bool x.on,O J x.fl.a,O J x.fl.b,O J x.fl.h,O J x.fl.unt,O J x.w],O J s] w fun e w'=>e=.returned (.bool (Dv x s))/\Below w.heap.size w w':=by
 obtain⟨on,fl,je⟩:=x
 cases on
 ·go_enter func148,ntmps148
  go_wp2
  go_ret
  exact⟨rfl,A7 _ _⟩
 ·go_enter func148,ntmps148
  go_wp2
  go_ret
  exact⟨rfl,A7 _ _⟩
theorem Yv(w:Wq):aI Pg 149 #[.agg #[.bool x.on,O J x.fl.a,O J x.fl.b,O J x.fl.h,O J x.fl.unt,O J x.w]] w fun e w'=>e=.returned (.bool (Dc x))/\Below w.heap.size w w':=by
 obtain⟨on,fl,je⟩:=x
 cases on
 ·go_enter func149,ntmps149
  go_wp2
  go_ret
  exact⟨rfl,A7 _ _⟩
 ·go_enter func149,ntmps149
  go_wp2
  go_ret
  exact⟨by simp[Dc],A7 _ _⟩
theorem a2w(w:Wq):aI Pg 131 (#[.agg #[.bool x.on,O J x.fl.a,O J x.fl.b,O J x.fl.h,O J x.fl.unt,O J x.w],.agg #[.bool y.on,O J y.fl.a,O J y.fl.b,O J y.fl.h,O J y.fl.unt,O J y.w]] ++ #[]) w fun e w'=>e=.returned (.bool true)/\Below w.heap.size w w':=by
 go_enter func131,ntmps131
 go_wp2
 go_ret
 exact⟨rfl,oO _ _ _⟩
theorem b6c(w:Wq):aI Pg 152 (#[.agg #[.bool x.on,O J x.fl.a,O J x.fl.b,O J x.fl.h,O J x.fl.unt,O J x.w]] ++ #[]) w fun e w'=>e=.returned (.bool x.on)/\Below w.heap.size w w':=by
 go_enter func152,ntmps152
 go_wp2
 go_ret
 exact⟨rfl,A7 _ _⟩
theorem b6e(w:Wq):aI Pg 154 (#[.agg #[.bool x.on,O J x.fl.a,O J x.fl.b,O J x.fl.h,O J x.fl.unt,O J x.w]] ++ #[]) w fun e w'=>e=.returned (.bool !x.on)/\Below w.heap.size w w':=by
 go_enter func154,ntmps154
 go_wp2
 go_ret
 exact⟨rfl,A7 _ _⟩
theorem b6a(w:Wq):aI Pg 150 (#[.agg #[.bool x.on,O J x.fl.a,O J x.fl.b,O J x.fl.h,O J x.fl.unt,O J x.w]] ++ #[]) w fun e w'=>e=.returned (.bool !Dc x)/\Below w.heap.size w w':=by
 have HL:Qi (∀ W,aI Pg 149 #[.agg #[.bool x.on,O J x.fl.a,O J x.fl.b,O J x.fl.h,O J x.fl.unt,O J x.w]] W fun e w'=>e=.returned (.bool (Dc x))/\Below W.heap.size W w'):=Yv x
 have Hb:Qi (∀ o,Below w.heap.size w (w.alloc o)):=fun o=>A7 _ _
 generalize Dc x=R at *
 go_enter func150,ntmps150
 go_wp2_with fail
 refine(HL.o _).mono ?_
 rintro e w1 ⟨rfl,bu⟩
 have qZ:Qi (Below w.heap.size w w1):=(Hb.o _).trans (bu.mono (Hb.o _).size)
 clear bu
 go_wp2
 go_ret
 exact⟨rfl,qZ.o⟩
theorem b5z(w:Wq)(hB:w.heap[B]?=some (.cells #[O J p.s,O J p.c.k,O J p.c.a,O J p.c.b,O J p.c.t,O J p.c.q,O J p.c.h,O J p.fro,O J p.to,O J p.e,O J p.h,O J p.n,Y aK p.t.length cK] 78 (0,0))) :
  aI Pg 147 (#[.agg #[.bool x.on,O J x.fl.a,O J x.fl.b,O J x.fl.h,O J x.fl.unt,O J x.w]] ++ #[.pointer (some ⟨B,0,none⟩)]) w fun e w'=>e=.returned (.bool (Dv x p.h && Dc x))/\Below w.heap.size w w':=by
 obtain⟨c10,-,-,-,-,gm⟩:=Q8 hB
 have HA:Qi (∀ W,aI Pg 148 #[.agg #[.bool x.on,O J x.fl.a,O J x.fl.b,O J x.fl.h,O J x.fl.unt,O J x.w],O J p.h] W fun e w'=>e=.returned (.bool (Dv x p.h))/\Below W.heap.size W w'):=Xd x p.h
 have HL:Qi (∀ W,aI Pg 149 #[.agg #[.bool x.on,O J x.fl.a,O J x.fl.b,O J x.fl.h,O J x.fl.unt,O J x.w]] W fun e w'=>e=.returned (.bool (Dc x))/\Below W.heap.size W w'):=Yv x
 obtain⟨ox,jq⟩:∃ o:Obj,o=.cells #[.bool x.on,O J x.fl.a,O J x.fl.b,O J x.fl.h,O J x.fl.unt,O J x.w] 139:=⟨_,rfl⟩
 have Hb:Qi (Below w.heap.size w (w.alloc ox)):=A7 _ _
 have HX:Qi ((w.alloc ox).heap[w.heap.size]?=some ox):=fP _ _
 generalize Dv x p.h=R at *
 generalize Dc x=S at *
 clear hB
 go_enter func147,ntmps147
 go_wp2_with fail
 rw[<- jq]
 generalize w.alloc ox=V at *
 refine(HA.o V).mono ?_
 rintro e w1 ⟨rfl,bu⟩
 have qZ:Qi (Below w.heap.size w w1):=Hb.o.trans (bu.mono Hb.o.size)
 have MF:=(bu.block _ (fC HX.o)).trans HX.o
 rw[jq] at MF
 obtain⟨m0,m1,m2,m3,m4,m5,ms⟩:=Bh MF
 clear bu Hb HX HA c10 MF
 cases R
 ·go_wp2
  go_ret
  exact⟨rfl,qZ.o⟩
 ·go_wp2_with fail
  refine(HL.o _).mono ?_
  rintro e w2 ⟨rfl,dm⟩
  have uo:Qi (Below w.heap.size w w2):=qZ.o.trans (dm.mono qZ.o.size)
  clear dm
  go_wp2
  go_ret
  exact⟨rfl,uo.o⟩
theorem b6b(w:Wq)(hB:w.heap[B]?=some (.cells #[O J p.s,O J p.c.k,O J p.c.a,O J p.c.b,O J p.c.t,O J p.c.q,O J p.c.h,O J p.fro,O J p.to,O J p.e,O J p.h,O J p.n,Y aK p.t.length cK] 78 (0,0))) :
  aI Pg 151 (#[.agg #[.bool x.on,O J x.fl.a,O J x.fl.b,O J x.fl.h,O J x.fl.unt,O J x.w],.agg #[.bool y.on,O J y.fl.a,O J y.fl.b,O J y.fl.h,O J y.fl.unt,O J y.w]] ++ #[.pointer (some ⟨B,0,none⟩)]) w fun e w'=>e=.returned (.bool (!x.on && Dv y p.h))/\Below w.heap.size w w':=by
 obtain⟨c10,-,-,-,-,gm⟩:=Q8 hB
 have HA:Qi (∀ W,aI Pg 148 #[.agg #[.bool y.on,O J y.fl.a,O J y.fl.b,O J y.fl.h,O J y.fl.unt,O J y.w],O J p.h] W fun e w'=>e=.returned (.bool (Dv y p.h))/\Below W.heap.size W w'):=Xd y p.h
 have Hb:Qi (∀ o o',Below w.heap.size w ((w.alloc o).alloc o')):=fun _ _=>oO _ _ _
 obtain⟨on,fl,je⟩:=x
 generalize Dv y p.h=R at *
 clear hB
 cases on
 ·go_enter func151,ntmps151
  go_wp2_with fail
  refine(HA.o _).mono ?_
  rintro e w1 ⟨rfl,bu⟩
  have qZ:Qi (Below w.heap.size w w1):=(Hb.o _ _).trans (bu.mono (Hb.o _ _).size)
  clear bu c10
  go_wp2
  go_ret
  exact⟨rfl,qZ.o⟩
 ·go_enter func151,ntmps151
  go_wp2
  go_ret
  exact⟨rfl,Hb.o _ _⟩
theorem b6d(w:Wq) :
  aI Pg 153 (#[.agg #[.bool x.on,O J x.fl.a,O J x.fl.b,O J x.fl.h,O J x.fl.unt,O J x.w],.agg #[.bool y.on,O J y.fl.a,O J y.fl.b,O J y.fl.h,O J y.fl.unt,O J y.w]] ++ #[]) w fun e w'=>e=.returned (.bool (x.on && !Dv y x.fl.h))/\Below w.heap.size w w':=by
 have HA:Qi (∀ W,aI Pg 148 #[.agg #[.bool y.on,O J y.fl.a,O J y.fl.b,O J y.fl.h,O J y.fl.unt,O J y.w],O J x.fl.h] W fun e w'=>e=.returned (.bool (Dv y x.fl.h))/\Below W.heap.size W w'):=Xd y x.fl.h
 have Hb:Qi (∀ o o',Below w.heap.size w ((w.alloc o).alloc o')):=fun _ _=>oO _ _ _
 obtain⟨on,fl,je⟩:=x
 dsimp only at HA ⊢
 generalize Dv y fl.h=R at *
 cases on
 ·go_enter func153,ntmps153
  go_wp2
  go_ret
  exact⟨rfl,Hb.o _ _⟩
 ·go_enter func153,ntmps153
  go_wp2_with fail
  refine(HA.o _).mono ?_
  rintro e w1 ⟨rfl,bu⟩
  have qZ:Qi (Below w.heap.size w w1):=(Hb.o _ _).trans (bu.mono (Hb.o _ _).size)
  clear bu
  go_wp2
  go_ret
  exact⟨rfl,qZ.o⟩
theorem b6f(g:Mo->Bool)(B:Nat)(v:dU)(x y:Mo)(w w0:Wq)(hB:w.heap[B]?=some (.cells #[v] 186 (0,0)))(hv:IsF w0 v g)(hw:Below w0.heap.size w0 w) :
  aI Pg 163 (#[.agg #[.bool x.on,O J x.fl.a,O J x.fl.b,O J x.fl.h,O J x.fl.unt,O J x.w],.agg #[.bool y.on,O J y.fl.a,O J y.fl.b,O J y.fl.h,O J y.fl.unt,O J y.w]] ++ #[.pointer (some ⟨B,0,none⟩)]) w fun e w'=>e=.returned (.bool (g x || g y))/\Below w.heap.size w w':=by
 obtain⟨F,qy,rfl,h1,h2⟩:=hv.ex
 obtain⟨c0,-,gm⟩:=Aw hB
 have DT:Qi (∀ args W,(jI F args).run Pg W=.ok (.enter F args) W):=h1
 have HP:Qi (∀ W,Below w.heap.size w W->∀ x:Mo,aI Pg F (#[.agg #[.bool x.on,O J x.fl.a,O J x.fl.b,O J x.fl.h,O J x.fl.unt,O J x.w]] ++ qy) W fun e W'=>e=.returned (.bool (g x))/\Below W.heap.size W W'):=fun W hW=>h2 W (hw.trans (hW.mono hw.size))
 obtain⟨ox,jq⟩:∃ o:Obj,o=.cells #[.bool x.on,O J x.fl.a,O J x.fl.b,O J x.fl.h,O J x.fl.unt,O J x.w] 139:=⟨_,rfl⟩
 obtain⟨oy,uM⟩:∃ o:Obj,o=.cells #[.bool y.on,O J y.fl.a,O J y.fl.b,O J y.fl.h,O J y.fl.unt,O J y.w] 139:=⟨_,rfl⟩
 have Hb:Qi (Below w.heap.size w ((w.alloc ox).alloc oy)):=oO _ _ _
 have HY:Qi (((w.alloc ox).alloc oy).heap[w.heap.size+1]?=some oy):=by
  have:=fP (w.alloc ox) oy
  rwa [show (w.alloc ox).heap.size=w.heap.size+1 by simp] at this
 have HB:Qi (((w.alloc ox).alloc oy).heap[B]?=some (.cells #[.func (.func F) #[] qy] 186 (0,0))):=(Hb.o.block _ gm).trans hB
 obtain⟨R,hR⟩:∃ R,R=(g x || g y):=⟨_,rfl⟩
 rw[<- hR]
 have HR:Qi (R=(g x || g y)):=hR
 clear hv hw h1 h2 hB hR
 go_enter func163,ntmps163
 go_wp2_with fail
 rw[<- jq,<- uM]
 generalize (w.alloc ox).alloc oy=V at *
 rw[DT.o]
 refine(HP.o V Hb.o x).mono ?_
 rintro e w1 ⟨rfl,bu⟩
 have qZ:Qi (Below w.heap.size w w1):=Hb.o.trans (bu.mono Hb.o.size)
 have hY1:=(bu.block _ (fC HY.o)).trans HY.o
 rw[uM] at hY1
 obtain⟨m0,m1,m2,m3,m4,m5,ms⟩:=Bh hY1
 obtain⟨d0,-,-⟩:=Aw ((bu.block _ (fC HB.o)).trans HB.o)
 clear bu Hb HY c0 HB hY1
 cases hgx:g x
 ·have yJ:R=g y:=by rw[HR.o,hgx];rfl
  clear HR hgx
  go_wp2_with fail
  rw[DT.o]
  refine(HP.o w1 qZ.o y).mono ?_
  rintro e w2 ⟨rfl,dm⟩
  have uo:Qi (Below w.heap.size w w2):=qZ.o.trans (dm.mono qZ.o.size)
  clear dm
  rw[<- yJ]
  clear yJ
  go_wp2
  go_ret
  exact⟨rfl,uo.o⟩
 ·have yJ:R=true:=by rw[HR.o,hgx];rfl
  subst yJ
  clear HR hgx
  go_wp2
  go_ret
  exact⟨rfl,qZ.o⟩
theorem fn163:∀ args W,(jI 163 args).run Pg W=.ok (.enter 163 args) W:=fun _ _=>by kernel_rfl
theorem Nu(g:Mo->Bool)(v:dU)(w:Wq)(hv:IsF w v g) :
  aI Pg 146 #[v] w fun e w'=>∃ v',e=.returned v'/\RuF w' v' (fun x y=>g x || g y)/\Below w.heap.size w w':=by
 have HB:Qi ((w.alloc (.cells #[v] 186)).heap[w.heap.size]?=some (.cells #[v] 186 (0,0))):=fP _ _
 have Hb:Qi (Below w.heap.size w (w.alloc (.cells #[v] 186))):=A7 _ _
 have HV:Qi (IsF w v g):=hv
 obtain⟨F,qy,rfl,-,-⟩:=hv.ex
 clear hv
 go_enter func146,ntmps146
 go_wp2
 go_ret
 refine⟨_,rfl,⟨_,_,rfl,fn163,fun W hW x y=>?_⟩,Hb.o⟩
 exact b6f g _ _ x y W w ((hW.block _ (fC HB.o)).trans HB.o) HV.o (Hb.o.trans (hW.mono Hb.o.size))
def RuP(w:Wq)(p:Mo->Mo->Bool)(e:Ending)(w':Wq):Prop:=∃ v,e=.returned v/\RuF w' v p/\Below w.heap.size w w'
theorem fn147:∀ args W,(jI 147 args).run Pg W=.ok (.enter 147 args) W:=fun _ _=>by kernel_rfl
theorem fn150:∀ args W,(jI 150 args).run Pg W=.ok (.enter 150 args) W:=fun _ _=>by kernel_rfl
theorem fn152:∀ args W,(jI 152 args).run Pg W=.ok (.enter 152 args) W:=fun _ _=>by kernel_rfl
theorem fn154:∀ args W,(jI 154 args).run Pg W=.ok (.enter 154 args) W:=fun _ _=>by kernel_rfl
theorem fn151:∀ args W,(jI 151 args).run Pg W=.ok (.enter 151 args) W:=fun _ _=>by kernel_rfl
theorem fn153:∀ args W,(jI 153 args).run Pg W=.ok (.enter 153 args) W:=fun _ _=>by kernel_rfl
theorem fn131:∀ args W,(jI 131 args).run Pg W=.ok (.enter 131 args) W:=fun _ _=>by kernel_rfl
theorem Vz(w:Wq):RuF w (.func (.func 131) #[] #[]) (fun _ _=>true):=⟨_,_,rfl,fn131,fun W _ x y=>a2w x y W⟩
theorem rLook(w:Wq) :
  aI Pg 128 #[Oo p aK cK] w (RuP w (fun x y=>if p.e=0 then (Dv x p.h && Dc x) || (Dv y p.h && Dc y) else !Dc x || !Dc y)):=by
 unfold Oo
 obtain⟨op,qU⟩:∃ o:Obj,o=.cells #[O J p.s,O J p.c.k,O J p.c.a,O J p.c.b,O J p.c.t,O J p.c.q,O J p.c.h,O J p.fro,O J p.to,O J p.e,O J p.h,O J p.n,Y aK p.t.length cK] 78:=⟨_,rfl⟩
 have Hb:Qi (Below w.heap.size w (w.alloc op)):=A7 _ _
 have HB:Qi ((w.alloc op).heap[w.heap.size]?=some op):=fP _ _
 by_cases h:p.e=0
 ·rw[show (fun x y=>if p.e=0 then (Dv x p.h && Dc x) || (Dv y p.h && Dc y) else !Dc x || !Dc y)=(fun x y=>(Dv x p.h && Dc x) || (Dv y p.h && Dc y)) from by funext x y;rw[af h]]
  have h':(p.e==0)=true:=by simpa using h
  have hI:IsF (w.alloc op) (.func (.func 147) #[] #[.pointer (some ⟨w.heap.size,0,none⟩)]) (fun x=>Dv x p.h && Dc x):=⟨_,_,rfl,fn147,fun W hW x=>b5z p aK cK _ x W (by have:=(hW.block _ (fC HB.o)).trans HB.o;rw[qU] at this;exact this)⟩
  clear h
  go_enter func128,ntmps128
  go_wp2_with fail
  rw[<- qU]
  refine(Nu _ _ (w.alloc op) hI).mono ?_
  rintro e w1 ⟨v1,rfl,uV,bu⟩
  obtain⟨F1,wZ,rfl,-,-⟩:=id uV.ex
  have rW:Qi (RuF w1 _ _):=uV
  have qZ:Qi (Below w.heap.size w w1):=Hb.o.trans (bu.mono Hb.o.size)
  clear uV bu
  go_wp2
  go_ret
  exact⟨_,rfl,rW.o,qZ.o⟩
 ·rw[show (fun x y=>if p.e=0 then (Dv x p.h && Dc x) || (Dv y p.h && Dc y) else !Dc x || !Dc y)=(fun x y=>!Dc x || !Dc y) from by funext x y;rw[ae h]]
  have h':(p.e==0)=false:=by simpa using h
  have hI:IsF (w.alloc op) (.func (.func 150) #[] #[]) (fun x=>!Dc x):=⟨_,_,rfl,fn150,fun W hW x=>b6a x W⟩
  clear h
  go_enter func128,ntmps128
  go_wp2_with fail
  rw[<- qU]
  refine(Nu _ _ (w.alloc op) hI).mono ?_
  rintro e w1 ⟨v1,rfl,uV,bu⟩
  obtain⟨F1,wZ,rfl,-,-⟩:=id uV.ex
  have rW:Qi (RuF w1 _ _):=uV
  have qZ:Qi (Below w.heap.size w w1):=Hb.o.trans (bu.mono Hb.o.size)
  clear uV bu
  go_wp2
  go_ret
  exact⟨_,rfl,rW.o,qZ.o⟩
theorem rDrop(w:Wq) :
  aI Pg 130 #[Oo p aK cK] w (RuP w (fun x y=>if p.e=0 then x.on && !Dv y x.fl.h else !x.on || !y.on)):=by
 unfold Oo
 obtain⟨op,qU⟩:∃ o:Obj,o=.cells #[O J p.s,O J p.c.k,O J p.c.a,O J p.c.b,O J p.c.t,O J p.c.q,O J p.c.h,O J p.fro,O J p.to,O J p.e,O J p.h,O J p.n,Y aK p.t.length cK] 78:=⟨_,rfl⟩
 have Hb:Qi (Below w.heap.size w (w.alloc op)):=A7 _ _
 have HB:Qi ((w.alloc op).heap[w.heap.size]?=some op):=fP _ _
 by_cases h:p.e=0
 ·rw[show (fun (x y:Mo)=>if p.e=0 then x.on && !Dv y x.fl.h else !x.on || !y.on)=(fun x y=>x.on && !Dv y x.fl.h) from by funext x y;rw[af h]]
  have h':(p.e==0)=true:=by simpa using h
  have hI:RuF (w.alloc op) (.func (.func 153) #[] #[]) (fun x y=>x.on && !Dv y x.fl.h):=⟨_,_,rfl,fn153,fun W hW x y=>b6d x y W⟩
  have HI:Qi _:=hI
  clear h hI
  go_enter func130,ntmps130
  go_wp2_with fail
  go_ret
  rw[<- qU]
  exact⟨_,rfl,HI.o,Hb.o⟩
 ·rw[show (fun (x y:Mo)=>if p.e=0 then x.on && !Dv y x.fl.h else !x.on || !y.on)=(fun x y=>!x.on || !y.on) from by funext x y;rw[ae h]]
  have h':(p.e==0)=false:=by simpa using h
  have hI:IsF (w.alloc op) (.func (.func 154) #[] #[]) (fun x=>!x.on):=⟨_,_,rfl,fn154,fun W hW x=>b6e x W⟩
  clear h
  go_enter func130,ntmps130
  go_wp2_with fail
  rw[<- qU]
  refine(Nu _ _ (w.alloc op) hI).mono ?_
  rintro e w1 ⟨v1,rfl,uV,bu⟩
  obtain⟨F1,wZ,rfl,-,-⟩:=id uV.ex
  have rW:Qi (RuF w1 _ _):=uV
  have qZ:Qi (Below w.heap.size w w1):=Hb.o.trans (bu.mono Hb.o.size)
  clear uV bu
  go_wp2
  go_ret
  exact⟨_,rfl,rW.o,qZ.o⟩
theorem rAdd(w:Wq) :
  aI Pg 129 #[Oo p aK cK] w (RuP w (fun x y=>if p.e=0 then !x.on && Dv y p.h else if p.e=6 then x.on || y.on else true)):=by
 unfold Oo
 obtain⟨op,qU⟩:∃ o:Obj,o=.cells #[O J p.s,O J p.c.k,O J p.c.a,O J p.c.b,O J p.c.t,O J p.c.q,O J p.c.h,O J p.fro,O J p.to,O J p.e,O J p.h,O J p.n,Y aK p.t.length cK] 78:=⟨_,rfl⟩
 have Hb:Qi (Below w.heap.size w (w.alloc op)):=A7 _ _
 have HB:Qi ((w.alloc op).heap[w.heap.size]?=some op):=fP _ _
 by_cases h:p.e=0
 ·rw[show (fun (x y:Mo)=>if p.e=0 then !x.on && Dv y p.h else if p.e=6 then x.on || y.on else true)=(fun x y=>!x.on && Dv y p.h) from by funext x y;rw[af h]]
  have h':(p.e==0)=true:=by simpa using h
  have hI:RuF (w.alloc op) (.func (.func 151) #[] #[.pointer (some ⟨w.heap.size,0,none⟩)]) (fun x y=>!x.on && Dv y p.h):=⟨_,_,rfl,fn151,fun W hW x y=>b6b p aK cK _ x y W (by have:=(hW.block _ (fC HB.o)).trans HB.o;rw[qU] at this;exact this)⟩
  have HI:Qi _:=hI
  clear h hI
  go_enter func129,ntmps129
  go_wp2_with fail
  go_ret
  rw[<- qU]
  exact⟨_,rfl,HI.o,Hb.o⟩
 ·have h0:(p.e==0)=false:=by simpa using h
  by_cases h6:p.e=6
  ·rw[show (fun (x y:Mo)=>if p.e=0 then !x.on && Dv y p.h else if p.e=6 then x.on || y.on else true)=(fun x y=>x.on || y.on) from by funext x y;rw[ae h,af h6]]
   have h':(p.e==6)=true:=by simpa using h6
   have hI:IsF (w.alloc op) (.func (.func 152) #[] #[]) (fun x=>x.on):=⟨_,_,rfl,fn152,fun W hW x=>b6c x W⟩
   clear h h6
   go_enter func129,ntmps129
   go_wp2_with fail
   rw[<- qU]
   refine(Nu _ _ (w.alloc op) hI).mono ?_
   rintro e w1 ⟨v1,rfl,uV,bu⟩
   obtain⟨F1,wZ,rfl,-,-⟩:=id uV.ex
   have rW:Qi (RuF w1 _ _):=uV
   have qZ:Qi (Below w.heap.size w w1):=Hb.o.trans (bu.mono Hb.o.size)
   clear uV bu
   go_wp2
   go_ret
   exact⟨_,rfl,rW.o,qZ.o⟩
  ·rw[show (fun (x y:Mo)=>if p.e=0 then !x.on && Dv y p.h else if p.e=6 then x.on || y.on else true)=(fun _ _=>true) from by funext x y;rw[ae h,ae h6]]
   have h':(p.e==6)=false:=by simpa using h6
   have HI:Qi (RuF (w.alloc op) _ _):=Vz (w.alloc op)
   clear h h6
   go_enter func129,ntmps129
   go_wp2_with fail
   go_ret
   rw[<- qU]
   exact⟨_,rfl,HI.o,Hb.o⟩
theorem b1z(w:Wq) :
  aI Pg 90 #[Oo p aK cK] w (RuP w (Ph p)):=by
 unfold Oo
 obtain⟨op,qU⟩:∃ o:Obj,o=.cells #[O J p.s,O J p.c.k,O J p.c.a,O J p.c.b,O J p.c.t,O J p.c.q,O J p.c.h,O J p.fro,O J p.to,O J p.e,O J p.h,O J p.n,Y aK p.t.length cK] 78:=⟨_,rfl⟩
 have Hb:Qi (Below w.heap.size w (w.alloc op)):=A7 _ _
 have HB:Qi ((w.alloc op).heap[w.heap.size]?=some op):=fP _ _
 have lP:Qi ((w.alloc op).rangeAt w.heap.size 0 (p.enc aK cK)):=by
  have h:=HB.o
  subst qU
  exact Aq h rfl
 rw[qU] at lP
 obtain⟨g,hg⟩:∃ g,g=Ph p:=⟨_,rfl⟩
 rw[<- hg]
 by_cases h1:p.c.k=1
 ·have HC:Qi (∀ W,aI Pg 128 #[Oo p aK cK] W (RuP W g)):=by
   show ∀ W,_
   rw[show g=(fun x y=>if p.e=0 then (Dv x p.h && Dc x) || (Dv y p.h && Dc y) else !Dc x || !Dc y) from by rw[hg];funext x y;unfold Ph;rw[af h1]]
   exact rLook p aK cK
  have n1:(p.c.k==1)=true:=by simpa using h1
  clear h1 hg
  go_enter func90,ntmps90
  go_wp2_with (refine a8v rfl _ rfl rfl lP.o ?_)
  rw[<- qU]
  refine(HC.o (w.alloc op)).mono ?_
  rintro e w1 ⟨v1,rfl,uV,bu⟩
  obtain⟨F1,wZ,rfl,-,-⟩:=id uV.ex
  have rW:Qi (RuF w1 _ _):=uV
  have qZ:Qi (Below w.heap.size w w1):=Hb.o.trans (bu.mono Hb.o.size)
  clear uV bu
  go_wp2
  go_ret
  exact⟨_,rfl,rW.o,qZ.o⟩
 have n1:(p.c.k==1)=false:=by simpa using h1
 by_cases h2:p.c.k=2
 ·have HC:Qi (∀ W,aI Pg 129 #[Oo p aK cK] W (RuP W g)):=by
   show ∀ W,_
   rw[show g=(fun x y=>if p.e=0 then !x.on && Dv y p.h else if p.e=6 then x.on || y.on else true) from by rw[hg];funext x y;unfold Ph;rw[ae h1,af h2]]
   exact rAdd p aK cK
  have n2:(p.c.k==2)=true:=by simpa using h2
  clear h2 h1 hg
  go_enter func90,ntmps90
  go_wp2_with (refine a8v rfl _ rfl rfl lP.o ?_)
  rw[<- qU]
  refine(HC.o (w.alloc op)).mono ?_
  rintro e w1 ⟨v1,rfl,uV,bu⟩
  obtain⟨F1,wZ,rfl,-,-⟩:=id uV.ex
  have rW:Qi (RuF w1 _ _):=uV
  have qZ:Qi (Below w.heap.size w w1):=Hb.o.trans (bu.mono Hb.o.size)
  clear uV bu
  go_wp2
  go_ret
  exact⟨_,rfl,rW.o,qZ.o⟩
 have n2:(p.c.k==2)=false:=by simpa using h2
 by_cases h3:p.c.k=3
 ·have HC:Qi (∀ W,aI Pg 130 #[Oo p aK cK] W (RuP W g)):=by
   show ∀ W,_
   rw[show g=(fun x y=>if p.e=0 then x.on && !Dv y x.fl.h else !x.on || !y.on) from by rw[hg];funext x y;unfold Ph;rw[ae h1,ae h2,af h3]]
   exact rDrop p aK cK
  have n3:(p.c.k==3)=true:=by simpa using h3
  clear h3 h1 h2 hg
  go_enter func90,ntmps90
  go_wp2_with (refine a8v rfl _ rfl rfl lP.o ?_)
  rw[<- qU]
  refine(HC.o (w.alloc op)).mono ?_
  rintro e w1 ⟨v1,rfl,uV,bu⟩
  obtain⟨F1,wZ,rfl,-,-⟩:=id uV.ex
  have rW:Qi (RuF w1 _ _):=uV
  have qZ:Qi (Below w.heap.size w w1):=Hb.o.trans (bu.mono Hb.o.size)
  clear uV bu
  go_wp2
  go_ret
  exact⟨_,rfl,rW.o,qZ.o⟩
 have n3:(p.c.k==3)=false:=by simpa using h3
 have lg:g=(fun _ _=>true):=by rw[hg];funext x y;unfold Ph;rw[ae h1,ae h2,ae h3]
 have HI:Qi (RuF (w.alloc op) (.func (.func 131) #[] #[]) g):=by show RuF _ _ _;rw[lg];exact Vz (w.alloc op)
 clear h1 h2 h3 hg lg
 go_enter func90,ntmps90
 go_wp2_with (refine a8v rfl _ rfl rfl lP.o ?_)
 go_ret
 rw[<- qU]
 exact⟨_,rfl,HI.o,Hb.o⟩
structure Tn(w wr:Wq)(B A a b:Nat)(ka kb:Int)(W:Wd)(x:Mo)(v:Array dU):Prop where
 bx:wr.heap[w.heap.size]?=some (.cells v 28 (0,0))
 wi:WIn a b wr (.agg v) W
 k:wr.heap[w.heap.size+1]?=some (.cells #[O J ka,O J kb] 30 (0,0))
 m:wr.heap[A]?=some (.cells #[.bool x.on,O J x.fl.a,O J x.fl.b,O J x.fl.h,O J x.fl.unt,O J x.w] 139 (0,0))
 fine:Fine w wr (fun j=>j=B)
 o:¬ (a<=B/\B<b)/\¬ (a<=w.heap.size/\w.heap.size<b)/\¬ (a<=A/\A<b)/\b<=wr.heap.size
 ab:w.heap.size+1<A/\B<w.heap.size
theorem Tn.step{w wr w':Wq}{B A a b:Nat}{ka kb:Int}{W:Wd}{x:Mo}{v:Array dU}{Z:Nat->Prop}(h:Tn w wr B A a b ka kb W x v)(hf:Fine wr w' Z)(hz:∀ j,Z j->j=B\/wr.heap.size<=j):Tn w w' B A a b ka kb W x v:=by
 have hs:∀ j,j<wr.heap.size->j≠B->w'.heap[j]?=wr.heap[j]?:=fun j h1 h2=>hf.block j h1 (fun h3=>(hz j h3).elim h2 (fun h4=>by omega))
 have h1:=h.ab
 have h2:=h.o
 refine⟨(hs _ (fC h.bx) (by omega)).trans h.bx,h.wi.same fun j h3 h4=>hs j (by omega) (fun e=>h2.1 ⟨by omega,by omega⟩),(hs _ (fC h.k) (by omega)).trans h.k,(hs _ (fC h.m) (by omega)).trans h.m,?_,⟨h2.1,h2.2.1,h2.2.2.1,dQ h2.2.2.2 hf.size⟩,h1⟩
 exact h.fine.trans hf fun k hk wB=>(hz k wB).elim id (fun h4=>by have:=h.fine.size;omega)
theorem Tn.below{w wr w':Wq}{B A a b:Nat}{ka kb:Int}{W:Wd}{x:Mo}{v:Array dU}(h:Tn w wr B A a b ka kb W x v)(hb:Below wr.heap.size wr w'):Tn w w' B A a b ka kb W x v :=
 h.step (Fine.of_below (fun _=>False) hb) (fun j h=>h.elim)
end Go.Proofs.YthhgoenomehobaaGreat.mm
