/- Parts. -/
import Derived.Test.YthhgoenomehobaaGreatP40
import Derived.Test.YthhgoenomehobaaGreatP02
import Derived.Test.YthhgoenomehobaaGreatP45
import Derived.Test.YthhgoenomehobaaGreatP41
import Derived.Test.YthhgoenomehobaaGreatP38
import Derived.Test.YthhgoenomehobaaGreatP44
import Derived.Test.YthhgoenomehobaaGreatP06
import Derived.Test.YthhgoenomehobaaGreatP07
import Derived.Test.YthhgoenomehobaaGreatP34
import Derived.Test.YthhgoenomehobaaGreatP43
import Derived.Test.YthhgoenomehobaaGreatP03
import Derived.Test.YthhgoenomehobaaGreatP27
import Derived.Test.YthhgoenomehobaaGreatP42
namespace Go.Proofs.YthhgoenomehobaaGreat.mm
set_option maxRecDepth 100000
set_option linter.unusedVariables false
open Go.Value renaming int → O, slice → Y
open Go.IntKind renaming i64 → J
section
open Go Go.RowKit
def Py(ops:Array Oper)(i k:Nat):Bool:=((ops[i]?).map fun o=>o.after.any fun e=>e.on==k && Region.binds .any e).getD false
def updL(L:Nat->Bool)(i:Nat):Nat->Bool:=fun j=>if j=i then true else L j
theorem Az{L:Nat->Bool}{i j:Nat}(h:j≠i):updL L i j=L j:=if_neg h
theorem Rk{L:Nat->Bool}{i:Nat}:updL L i i=true:=if_pos rfl
theorem Rl{x:Nat->Value}{d k:Nat}{v:Value}(h:k≠d):updR x d v k=x k:=if_neg h
structure TwoB(w0:World)(b:Nat->Value)(n:Nat)(D:List Nat)(val:Nat->Value)(dA dB:Nat)(oz oA oB:Obj)(L:Nat->Bool)(x:Nat->Value)(W:World):Prop where
 bl:Below w0.heap.size w0 W
 out:∀ d,d ∉ D->d≠dA->d≠dB->x d=b d
 v:∀ i,i<n->L i=true->x (D.getD i 0)=val i
 a:L n=true->∃ B,x dA=.pointer (some ⟨B,0,none⟩)/\w0.heap.size<=B/\W.heap[B]?=some (if L (n+2) then oA else oz)
 c:L (n+1)=true->∃ B,x dB=.pointer (some ⟨B,0,none⟩)/\w0.heap.size<=B/\W.heap[B]?=some (if L (n+3) then oB else oz)
 ne:L n=true->L (n+1)=true->x dA≠x dB
 ea:L (n+2)=true->L n=true
 ec:L (n+3)=true->L (n+1)=true
section
variable {w0 W W':World} {b:Nat->Value} {n:Nat} {D:List Nat} {val:Nat->Value} {dA dB:Nat} {oz oA oB:Obj} {L:Nat->Bool} {x:Nat->Value}
theorem getD_mem{D:List Nat}{i:Nat}(h:i<D.length):D.getD i 0∈D:=by
 rw[List.getD_eq_getElem?_getD,List.getElem?_eq_getElem h]
 exact List.getElem_mem _
theorem TwoB.val_{i:Nat}(T:TwoB w0 b n D val dA dB oz oA oB L x W)(hn:D.length=n)(hD:D.Nodup)(hA:dA ∉ D)(hB:dB ∉ D)(hi:i<n):TwoB w0 b n D val dA dB oz oA oB (updL L i) (updR x (D.getD i 0) (val i)) W:=by
 have hm:D.getD i 0∈D:=getD_mem (by omega)
 have xA:updR x (D.getD i 0) (val i) dA=x dA:=Rl fun e=>hA (e ▸ hm)
 have xB:updR x (D.getD i 0) (val i) dB=x dB:=Rl fun e=>hB (e ▸ hm)
 refine⟨T.bl,fun d h1 h2 h3=>?_,fun j hj hl=>?_,?_,?_,?_,?_,?_⟩
 ·rw[Rl (k:=d) (d:=D.getD i 0) fun e=>h1 (e ▸ hm)];exact T.out d h1 h2 h3
 ·by_cases e:j=i
  ·subst e;exact if_pos rfl
  ·rw[Az e] at hl
   refine(if_neg fun h=>e ?_).trans (T.v j hj hl)
   rw[List.getD_eq_getElem?_getD,List.getD_eq_getElem?_getD,List.getElem?_eq_getElem (by omega),List.getElem?_eq_getElem (by omega)] at h
   exact(List.getElem_inj hD).1 h
 ·rw[Az (by omega),Az (by omega),xA];exact T.a
 ·rw[Az (by omega),Az (by omega),xB];exact T.c
 ·rw[Az (by omega),Az (by omega),xA,xB];exact T.ne
 ·rw[Az (by omega),Az (by omega)];exact T.ea
 ·rw[Az (by omega),Az (by omega)];exact T.ec
theorem ptr_ne{B C:Nat}(h:B≠C):(Value.pointer (some ⟨B,0,none⟩)) ≠ .pointer (some ⟨C,0,none⟩):=fun e=>by
 injection e with e;injection e with e;injection e with e;exact h e
theorem TwoB.allocA(T:TwoB w0 b n D val dA dB oz oA oB L x W)(hn:D.length=n)(hA:dA ∉ D)(hAB:dA≠dB)(hl:L n=false):TwoB w0 b n D val dA dB oz oA oB (updL L n) (updR x dA (.pointer (some ⟨W.heap.size,0,none⟩))) (W.alloc oz):=by
 have h2:L (n+2)=false:=by
  cases h:L (n+2) with
  | false=>rfl
  | true=>rw[T.ea h] at hl;cases hl
 have hb:=Aa W oz
 have xB:updR x dA (.pointer (some ⟨W.heap.size,0,none⟩)) dB=x dB:=if_neg (Ne.symm hAB)
 have xA:updR x dA (.pointer (some ⟨W.heap.size,0,none⟩)) dA=.pointer (some ⟨W.heap.size,0,none⟩):=if_pos rfl
 refine⟨T.bl.trans (hb.mono T.bl.size),fun d h1 h3 h4=>(if_neg h3).trans (T.out d h1 h3 h4),fun j hj hl=>?_,fun _=>⟨W.heap.size,xA,T.bl.size,?_⟩,?_,?_,?_,?_⟩
 ·rw[Az (by omega)] at hl
  rw[Rl (k:=D.getD j 0) (d:=dA) fun e=>hA (e ▸ getD_mem (by omega))];exact T.v j hj hl
 ·rw[Az (by omega),h2]
  exact heap_alloc_new _ _
 ·rw[Az (by omega),Az (by omega),xB]
  intro h
  obtain⟨B,e,h1,h3⟩:=T.c h
  exact⟨B,e,h1,(hb.block B (lt_of_block h3)).trans h3⟩
 ·rw[xA,xB,Az (j:=n+1) (by omega)]
  intro _ h
  obtain⟨B,e,h1,h3⟩:=T.c h
  rw[e]
  exact ptr_ne (by have:=lt_of_block h3;omega)
 ·intro _;exact Rk
 ·rw[Az (by omega),Az (by omega)];exact T.ec
theorem TwoB.allocB(T:TwoB w0 b n D val dA dB oz oA oB L x W)(hn:D.length=n)(hB:dB ∉ D)(hAB:dA≠dB)(hl:L (n+1)=false):TwoB w0 b n D val dA dB oz oA oB (updL L (n+1)) (updR x dB (.pointer (some ⟨W.heap.size,0,none⟩))) (W.alloc oz):=by
 have h2:L (n+3)=false:=by
  cases h:L (n+3) with
  | false=>rfl
  | true=>rw[T.ec h] at hl;cases hl
 have hb:=Aa W oz
 have xA:updR x dB (.pointer (some ⟨W.heap.size,0,none⟩)) dA=x dA:=if_neg hAB
 have xB:updR x dB (.pointer (some ⟨W.heap.size,0,none⟩)) dB=.pointer (some ⟨W.heap.size,0,none⟩):=if_pos rfl
 refine⟨T.bl.trans (hb.mono T.bl.size),fun d h1 h3 h4=>(if_neg h4).trans (T.out d h1 h3 h4),fun j hj hl=>?_,?_,fun _=>⟨W.heap.size,xB,T.bl.size,?_⟩,?_,?_,?_⟩
 ·rw[Az (by omega)] at hl
  rw[Rl (k:=D.getD j 0) (d:=dB) fun e=>hB (e ▸ getD_mem (by omega))];exact T.v j hj hl
 ·rw[Az (by omega),Az (by omega),xA]
  intro h
  obtain⟨B,e,h1,h3⟩:=T.a h
  exact⟨B,e,h1,(hb.block B (lt_of_block h3)).trans h3⟩
 ·rw[Az (by omega),h2]
  exact heap_alloc_new _ _
 ·rw[xA,xB,Az (j:=n) (by omega)]
  intro h _
  obtain⟨B,e,h1,h3⟩:=T.a h
  rw[e]
  exact ptr_ne (by have:=lt_of_block h3;omega)
 ·rw[Az (by omega),Az (by omega)];exact T.ea
 ·intro _;exact Rk
theorem TwoB.storeA{B:Nat}(T:TwoB w0 b n D val dA dB oz oA oB L x W)(h0:L n=true)(hB:x dA=.pointer (some ⟨B,0,none⟩))(hw:W'.heap[B]?=some oA)(hk:∀ k,k≠B->W'.heap[k]?=W.heap[k]?)(hs:W'.heap.size=W.heap.size)(h1:W'.os=W.os)(h2:W'.tape=W.tape)(h3:W'.output=W.output):TwoB w0 b n D val dA dB oz oA oB (updL L (n+2)) x W':=by
 obtain⟨B',e,hz,hb⟩:=T.a h0
 rw[hB] at e
 injection e with e;injection e with e;injection e with e
 subst e
 refine⟨⟨h1.trans T.bl.os,h2.trans T.bl.tape,h3.trans T.bl.output,by rw[hs];exact T.bl.size,fun k h=>(hk k (by omega)).trans (T.bl.block k h)⟩,T.out,fun j hj hl=>?_,fun _=>⟨B,hB,hz,?_⟩,?_,?_,?_,?_⟩
 ·rw[Az (by omega)] at hl;exact T.v j hj hl
 ·rw[Rk];exact hw
 ·rw[Az (by omega),Az (by omega)]
  intro h
  obtain⟨C,e,h4,h5⟩:=T.c h
  refine⟨C,e,h4,(hk C fun h6=>?_).trans h5⟩
  subst h6
  exact T.ne h0 h (hB.trans e.symm)
 ·rw[Az (by omega),Az (by omega)];exact T.ne
 ·rw[Az (j:=n) (by omega)];exact fun _=>h0
 ·rw[Az (by omega),Az (by omega)];exact T.ec
theorem TwoB.storeB{B:Nat}(T:TwoB w0 b n D val dA dB oz oA oB L x W)(h0:L (n+1)=true)(hB:x dB=.pointer (some ⟨B,0,none⟩))(hw:W'.heap[B]?=some oB)(hk:∀ k,k≠B->W'.heap[k]?=W.heap[k]?)(hs:W'.heap.size=W.heap.size)(h1:W'.os=W.os)(h2:W'.tape=W.tape)(h3:W'.output=W.output):TwoB w0 b n D val dA dB oz oA oB (updL L (n+3)) x W':=by
 obtain⟨B',e,hz,hb⟩:=T.c h0
 rw[hB] at e
 injection e with e;injection e with e;injection e with e
 subst e
 refine⟨⟨h1.trans T.bl.os,h2.trans T.bl.tape,h3.trans T.bl.output,by rw[hs];exact T.bl.size,fun k h=>(hk k (by omega)).trans (T.bl.block k h)⟩,T.out,fun j hj hl=>?_,?_,fun _=>⟨B,hB,hz,?_⟩,?_,?_,?_⟩
 ·rw[Az (by omega)] at hl;exact T.v j hj hl
 ·rw[Az (by omega),Az (by omega)]
  intro h
  obtain⟨C,e,h4,h5⟩:=T.a h
  refine⟨C,e,h4,(hk C fun h6=>?_).trans h5⟩
  subst h6
  exact T.ne h h0 (e.trans hB.symm)
 ·rw[Rk];exact hw
 ·rw[Az (by omega),Az (by omega)];exact T.ne
 ·rw[Az (by omega),Az (by omega)];exact T.ea
 ·rw[Az (j:=n+1) (by omega)];exact fun _=>h0
end
structure Put1(W W':World)(B:Nat)(o:Obj):Prop where
 at_:W'.heap[B]?=some o
 off:∀ k,k≠B->W'.heap[k]?=W.heap[k]?
 size:W'.heap.size=W.heap.size
 os:W'.os=W.os
 tape:W'.tape=W.tape
 output:W'.output=W.output
theorem V3{P:Program}{ops:Array Oper}{Q:Exit->Act->World->Prop}{id:Nat}{a:Act}{w0:World}(hm:P.follows .mixedOrders=true)(mk:(Nat->Value)->Act)(ha:a=mk fun k=>a.tmps.getD k undef)(n:Nat)(hsz:ops.size=n+4)(D:List Nat)(hn:D.length=n)(dA dB:Nat)(hD:(dA :: dB :: D).Nodup)
  (he:((List.range ops.size).all fun i=>((ops[i]?).map fun o=>o.after.all fun e=>decide (e.on<i) || !Region.binds .any e).getD true)=true)
  (jA jB:Nat) (hjA:jA<n) (hjB:jB<n) (e1:Py ops (n+2) n=true) (e2:Py ops (n+2) jA=true) (e3:Py ops (n+3) (n+1)=true) (e4:Py ops (n+3) jB=true)
  (val:Nat->Value) (oz oA oB:Obj)
  (step:∀ i,i<n->∀ x W,Below w0.heap.size w0 W->(∀ d,d ∉ D->d≠dA->d≠dB->x d=a.tmps.getD d undef)->(∀ k,k<n->Py ops i k=true->x (D.getD k 0)=val k)->wpOp P ops Q i (fun a' W'=>a'=mk (updR x (D.getD i 0) (val i))/\W'=W) (mk x) W)
  (alA:∀ x W,wpOp P ops Q n (fun a' W'=>a'=mk (updR x dA (.pointer (some ⟨W.heap.size,0,none⟩)))/\W'=W.alloc oz) (mk x) W)
  (alB:∀ x W,wpOp P ops Q (n+1) (fun a' W'=>a'=mk (updR x dB (.pointer (some ⟨W.heap.size,0,none⟩)))/\W'=W.alloc oz) (mk x) W)
  (stA:∀ x W B,x dA=.pointer (some ⟨B,0,none⟩)->x (D.getD jA 0)=val jA->W.heap[B]?=some oz->wpOp P ops Q (n+2) (fun a' W'=>a'=mk x/\Put1 W W' B oA) (mk x) W)
  (stB:∀ x W B,x dB=.pointer (some ⟨B,0,none⟩)->x (D.getD jB 0)=val jB->W.heap[B]?=some oz->wpOp P ops Q (n+3) (fun a' W'=>a'=mk x/\Put1 W W' B oB) (mk x) W)
  (fin:∀ x W A B,Below w0.heap.size w0 W->(∀ d,d ∉ D->d≠dA->d≠dB->x d=a.tmps.getD d undef)->(∀ i,i<n->x (D.getD i 0)=val i)->x dA=.pointer (some ⟨A,0,none⟩)->x dB=.pointer (some ⟨B,0,none⟩)->w0.heap.size<=A->w0.heap.size<=B->A≠B->W.heap[A]?=some oA->W.heap[B]?=some oB->Q .normal (mk x) W):(Code.region id ops true).wp P Q a w0:=by
 rw[List.nodup_cons,List.nodup_cons] at hD
 obtain⟨hA,hB,hD⟩:=hD
 have hAB:dA≠dB:=fun e=>hA (by simp[e])
 have hA:dA ∉ D:=fun e=>hA (List.mem_cons_of_mem _ e)
 refine J6 hm (fun listed a' W=>∃ x,a'=mk x/\listed.size=ops.size/\TwoB w0 (fun d=>a.tmps.getD d undef) n D val dA dB oz oA oB (fun j=>listed.getD j false) x W) ?_ ?_ ?_
 ·have hz:∀ i,(Array.replicate ops.size false).getD i false=false:=fun i=>by
   by_cases hi:i<ops.size <;> simp[Array.getD_eq_getD_getElem?,hi]
  have hf:∀ {i:Nat} {p:Prop},(Array.replicate ops.size false).getD i false=true->p:=fun h=>by rw[hz] at h;cases h
  exact⟨_,ha,by simp,⟨(Below.refl _ _).drew,fun _ _ _ _=>rfl,fun _ _ h=>hf h,fun h=>hf h,fun h=>hf h,fun h=>hf h,fun h=>hf h,fun h=>hf h⟩⟩
 ·rintro listed a' W i hi ⟨x,rfl,hs,T⟩
  obtain⟨h1,h2,o,ho,hpre⟩:=Gt hi
  rw[un_iff (by omega)] at h2
  have hb:∀ k,Py ops i k=true->listed.getD k false=true:=fun k hk=>by
   unfold Py at hk
   rw[ho] at hk
   simp only[Option.map_some,Option.getD_some] at hk
   rw[Array.any_eq_true'] at hk
   obtain⟨e,hem,hek⟩:=hk
   rw[Bool.and_eq_true] at hek
   have hon:e.on=k:=by simpa using hek.1
   have:=hpre e hem hek.2
   rwa [hon] at this
  have eL:(fun k=>(listed.setIfInBounds i true).getD k false)=updL (fun k=>listed.getD k false) i:=by
   funext k
   by_cases hk:k=i
   ·subst hk;rw[Rk];exact setS (by omega)
   ·rw[Az hk];exact setL (fun e=>hk e.symm) _
  have hs':(listed.setIfInBounds i true).size=ops.size:=by simpa using hs
  by_cases c0:i<n
  ·refine wpOp_mono ?_ (step i c0 x W T.bl T.out fun k hk hb'=>T.v k hk (hb k hb'))
   rintro a'' W' ⟨rfl,rfl⟩
   exact⟨_,rfl,hs',by rw[eL];exact T.val_ hn hD hA hB c0⟩
  by_cases c1:i=n
  ·subst c1
   refine wpOp_mono ?_ (alA x W)
   rintro a'' W' ⟨rfl,rfl⟩
   exact⟨_,rfl,hs',by rw[eL];exact T.allocA hn hA hAB h2⟩
  by_cases c2:i=n+1
  ·subst c2
   refine wpOp_mono ?_ (alB x W)
   rintro a'' W' ⟨rfl,rfl⟩
   exact⟨_,rfl,hs',by rw[eL];exact T.allocB hn hB hAB h2⟩
  by_cases c3:i=n+2
  ·subst c3
   obtain⟨B,e,hz,hbk⟩:=T.a (hb n e1)
   rw[h2] at hbk
   refine wpOp_mono ?_ (stA x W B e (T.v jA hjA (hb jA e2)) hbk)
   rintro a'' W' ⟨rfl,p⟩
   exact⟨_,rfl,hs',by rw[eL];exact T.storeA (hb n e1) e p.at_ p.off p.size p.os p.tape p.output⟩
  ·have c4:i=n+3:=by omega
   subst c4
   obtain⟨B,e,hz,hbk⟩:=T.c (hb (n+1) e3)
   rw[h2] at hbk
   refine wpOp_mono ?_ (stB x W B e (T.v jB hjB (hb jB e4)) hbk)
   rintro a'' W' ⟨rfl,p⟩
   exact⟨_,rfl,hs',by rw[eL];exact T.storeB (hb (n+1) e3) e p.at_ p.off p.size p.os p.tape p.output⟩
 ·rintro listed a' W hr ⟨x,rfl,hs,T⟩
  have all:=L9 hr hs he
  obtain⟨A,eA,zA,bA⟩:=T.a (all (n+1) n (by omega) (by omega))
  obtain⟨B,eB,zB,bB⟩:=T.c (all (n+2) (n+1) (by omega) (by omega))
  rw[all (n+3) (n+2) (by omega) (by omega)] at bA
  rw[all (n+4) (n+3) (by omega) (by omega)] at bB
  refine fin x W A B T.bl T.out (fun i hi=>T.v i hi (all (i+1) i (by omega) (by omega))) eA eB zA zB (fun e=>?_) bA bB
  subst e
  exact T.ne (all (n+1) n (by omega) (by omega)) (all (n+2) (n+1) (by omega) (by omega)) (eA.trans eB.symm)
end
section
open Go.ChangeShapes Go.WideShapes Go.ChangeAt Go.RowKit
set_option maxHeartbeats 1600000 in
theorem Ky(M:Mm)(aS aH aF aL:Option Addr)(cS cH cF cL:Nat)(b:Int)(w:World)(A:At w aS aH aF aL cS cH cF cL M) :
  Calls Tryz.prog 53 #[.agg #[Y aS M.slots.length cS,Y aH M.heads.length cH,Y aF M.free.length cF,Y aL M.locks.length cL,O J M.now],O J b] w fun e w' =>
   ∃ ao cap,e=.returned (.tuple #[Y ao (Ic M b).length cap,O J (Fa M b)])/\IRow w' ao cap (Ic M b)/\Below w.heap.size w w':=by
 obtain⟨E0,hE0⟩:∃ E0,E0=Fa M b:=⟨_,rfl⟩
 obtain⟨L0,hL0⟩:∃ L0,L0=Ic M b:=⟨_,rfl⟩
 rw[<- hE0,<- hL0]
 have HE0:Hid (E0=Fa M b):=hE0
 have HL0:Hid (L0=Ic M b):=hL0
 clear hE0 hL0
 have m2:=A.h.max
 have n2:M.heads.length<=9223372036854775807:=by omega
 obtain⟨o1,ho1⟩:∃ o:Obj,o=.cells #[Y aS M.slots.length cS,Y aH M.heads.length cH,Y aF M.free.length cF,Y aL M.locks.length cL,O J M.now] 25:=⟨_,rfl⟩
 have b0:Below w.heap.size w (w.alloc o1):=Aa w o1
 have HB0:Hid ((w.alloc o1).heap[w.heap.size]?=some o1):=heap_alloc_new _ _
 have HA:Hid (At w aS aH aF aL cS cH cF cL M):=A
 have HA0:Hid _:=A.below b0
 clear A
 go_enter Tryz.func53,Tryz.ntmps53
 go_wp2_with fail
 rw[<- ho1]
 generalize w.alloc o1=W0 at *
 subst ho1
 refine(check_any M aS aH aF aL cS cH cF cL W0 HA0.out).mono ?_
 rintro e w1 ⟨rfl,hb1⟩
 have b1:=b0.trans (hb1.mono b0.size)
 have HB1:Hid _:=(hb1.block w.heap.size (lt_of_block HB0.out)).trans HB0.out
 clear hb1 b0 HB0 HA0
 by_cases hE:chk M=0
 rotate_left
 ·have h':(chk M != 0)=true:=by simpa using hE
  have HV:Hid (E0=chk M/\L0=[]):=by
   have h:Fa M b=chk M:=by unfold Fa;rw[if_pos hE]
   exact⟨HE0.out.trans h,HL0.out.trans (by unfold Ic;rw[h,if_neg hE])⟩
  clear HB1
  generalize chk M=E at *
  go_wp2
  go_ret2
  exact⟨none,0,by rw[HV.out.1,HV.out.2];rfl,by rw[HV.out.2];exact Yh _,b1⟩
 have hok:=(G9 M).1 hE
 have HC:Hid (chk M=0):=hE
 rw[hE]
 clear hE
 obtain⟨q0,q1,q2,q3,q4,f0,f1,f2,f3,f4,qs⟩:=boxf HB1.out
 clear f0 f1 f2 f3 f4
 go_wp2_with fail
 refine(Ej aS aH aF aL _ _ _ _ cS cH cF cL _ _ w1 n2).mono ?_
 rintro e w2 ⟨rfl,hb2⟩
 have b2:=b1.trans (hb2.mono b1.size)
 have HB2:Hid _:=(hb2.block w.heap.size qs).trans HB1.out
 clear hb2 b1 HB1 q0 q1 q2 q3 q4 qs
 cases hS:inB b 0 ((M.heads.length:Int) - 1)
 ·have HV:Hid (E0=5/\L0=[]):=by
   have h:Fa M b=5:=by unfold Fa;rw[if_neg (by simpa using HC.out),if_pos hS]
   exact⟨HE0.out.trans h,HL0.out.trans (by unfold Ic;rw[h,if_neg (by decide)])⟩
  go_wp2
  go_ret2
  exact⟨none,0,by rw[HV.out.1,HV.out.2];rfl,by rw[HV.out.2];exact Yh _,b2⟩
 have hbb:=(Ag _ _ _).1 hS
 obtain⟨c,rfl⟩:∃ c:Nat,b=c:=⟨b.toNat,by omega⟩
 have hc:c<M.heads.length:=by omega
 have HV:Hid (E0=Ha M c/\L0=Ih M c):=by
  have h:Fa M c=Ha M c:=by unfold Fa;rw[if_neg (by simpa using HC.out),if_neg (by rw[hS];simp)];rfl
  refine⟨HE0.out.trans h,HL0.out.trans ?_⟩
  unfold Ic
  rw[h]
  unfold Ha Ih
  cases chOk M c <;> simp
 obtain⟨q0,q1,q2,q3,q4,f0,f1,f2,f3,f4,qs⟩:=boxf HB2.out
 clear f0 f1 f2 f3 f4 hS hbb
 have HA2:Hid _:=HA.out.below b2
 go_wp2_with fail
 refine(Rf M aS aH aF aL cS cH cF cL c w2 HA2.out hok hc).mono ?_
 rintro e w3 ⟨ao,cap,rfl,hrow,hb3⟩
 have b3:=b2.trans (hb3.mono b2.size)
 have HR:Hid _:=hrow
 clear hrow hb3 b2 HB2 q0 q1 q2 q3 q4 qs HA2
 generalize Ha M c=e1 at *
 generalize Ih M c=l1 at *
 go_wp2
 go_ret2
 exact⟨ao,cap,by rw[HV.out.1,HV.out.2];rfl,by rw[HV.out.2];exact HR.out,b3⟩
end
section
open Go.ChangeShapes Go.WideShapes Go.ChangeAt Go.RowKit Go.Joins Go.Deep Go.Maps
theorem Rh{M:Mm}(h:OkC M){b:Int}(hb:0<=b/\b<M.heads.length):Fa M b=0/\Ic M b=chL M b.toNat:=by
 have h1:Fa M b=0:=by
  unfold Fa
  rw[(G9 _).2 h.ok,if_neg (by simp),if_neg (by rw[Bool.not_eq_false,Ag];omega)]
  unfold Ha
  rw[if_pos ((Ua _ _).2 (h.ends _ (by omega)))]
 exact⟨h1,by unfold Ic;rw[if_pos h1]⟩
set_option maxHeartbeats 1600000 in
theorem a2q{W:Wd}(I:WInv W)(b:Int)(hb:0<=b/\b<W.m.heads.length){lo:Nat}{w:World}{aS aH aF aL:Option Addr}{cS cH cF cL:Nat}{aT:Option Addr}{cT:Nat}(h:WAns lo w (.agg #[Y aS W.m.slots.length cS,Y aH W.m.heads.length cH,Y aF W.m.free.length cF,Y aL W.m.locks.length cL,O J W.m.now,Y aT W.ts.length cT]) W) :
  Calls Tryz.prog 52 #[.agg #[Y aS W.m.slots.length cS,Y aH W.m.heads.length cH,Y aF W.m.free.length cF,Y aL W.m.locks.length cL,O J W.m.now,Y aT W.ts.length cT],O J b] w fun e w'=>∃ ao cap,e=.returned (.tuple #[Y ao ((chL W.m b.toNat).map (keyAt W.m)).length cap,.bool true])/\KOwn w' w.heap.size ao cap ((chL W.m b.toNat).map (keyAt W.m))/\Below w.heap.size w w':=by
 obtain⟨L,hL⟩:∃ L,L=(chL W.m b.toNat).map (keyAt W.m):=⟨_,rfl⟩
 rw[<- hL]
 obtain⟨S,hS⟩:∃ S,S=chL W.m b.toNat:=⟨_,rfl⟩
 have HL:Hid (L=S.map (keyAt W.m)):=by rw[hS];exact hL
 have HLn:Hid (L.length=S.length):=by show _=_;rw[hL,List.length_map,hS]
 have hS12:S.length<=12:=by
  rw[hS];exact Lj I.okc (by omega)
 have HSl:Hid (∀ a∈S,0<=a/\a<W.m.slots.length):=fun a ha=>by
  rw[hS] at ha
  exact I.okc.G8 a (Du.2 ⟨b.toNat,by omega,ha⟩)
 obtain⟨ox,hox⟩:∃ o:Obj,o=.cells #[Y aS W.m.slots.length cS,Y aH W.m.heads.length cH,Y aF W.m.free.length cF,Y aL W.m.locks.length cL,O J W.m.now,Y aT W.ts.length cT] 28:=⟨_,rfl⟩
 have b0:Below w.heap.size w (w.alloc ox):=Aa _ _
 have HX0:Hid ((w.alloc ox).heap[w.heap.size]?=some ox):=heap_alloc_new _ _
 obtain⟨lt,A,-,-,-,-⟩:=h.parts
 have HA0:Hid (At (w.alloc ox) aS aH aF aL cS cH cF cL W.m):=A.below b0
 have Hb0:Hid (Below w.heap.size w (w.alloc ox)):=b0
 have l5:Hid ((w.alloc (.cells #[Y aS W.m.slots.length cS,Y aH W.m.heads.length cH,Y aF W.m.free.length cF,Y aL W.m.locks.length cL,O J W.m.now,Y aT W.ts.length cT] 28)).rangeAt w.heap.size 0 [Y aS W.m.slots.length cS,Y aH W.m.heads.length cH,Y aF W.m.free.length cF,Y aL W.m.locks.length cL,O J W.m.now]):=by subst hox;exact Aw HX0.out rfl
 have HSr:Hid (Fa W.m b=0/\Ic W.m b=S):=by rw[hS];exact Rh I.okc hb
 clear hL hS I h A b0 hb
 go_enter Tryz.func52,Tryz.ntmps52
 go_wp2_with (refine wl_5 rfl _ rfl rfl l5.out ?_)
 rw[<- hox]
 rw[<- hox] at l5
 clear l5
 generalize w.alloc ox=V0 at *
 subst hox
 refine(Ky W.m aS aH aF aL cS cH cF cL b V0 HA0.out).mono ?_
 rw[HSr.out.1,HSr.out.2]
 rintro e w1 ⟨ao,cap,rfl,hrow,hb1⟩
 have HRow:Hid (IRow w1 ao cap S):=hrow
 have HX1:Hid (w1.heap[w.heap.size]?=some (.cells #[Y aS W.m.slots.length cS,Y aH W.m.heads.length cH,Y aF W.m.free.length cF,Y aL W.m.locks.length cL,O J W.m.now,Y aT W.ts.length cT] 28 (0,0))):=(hb1.block _ (lt_of_block HX0.out)).trans HX0.out
 have HA1:Hid (At w1 aS aH aF aL cS cH cF cL W.m):=HA0.out.below hb1
 have Hb1:Hid (Below w.heap.size w w1):=Hb0.out.trans (hb1.mono Hb0.out.size)
 have hrm:=hrow.max
 have hrl:=hrow.le
 clear hrow hb1 HX0 HA0 Hb0 HSr
 go_wp2_with fail
 obtain⟨i0,hi0,hz0,hz1,hz2⟩:=info_parts iK
 go_loopw [20,8] (fun i o wr=>∃ k:Nat,k<=S.length/\i=O J k/\∃ ao cap,o=Y ao k cap/\Hid (wr.ownsRow w1.heap.size 30 2 (Y ao k cap) k (encK (L.take k)))/\Hid (Below w1.heap.size w1 wr)) (fun i _ _=>S.length - (intOf i).toNat)
 case atStart=>exact⟨0,Nat.zero_le _,rfl,none,0,rfl,World.ownsRow_nil w1 _ _ _,Below.refl _ _⟩
 case round =>
  obtain⟨k,hk,rfl,a2,c2,rfl,HO,Hb⟩:=hrel
  have hX:=(Hb.out.block _ (lt_of_block HX1.out)).trans HX1.out
  obtain⟨y0,y1,y2,y3,y4,y5,ys⟩:=Df hX
  clear hX
  by_cases hlt:k<S.length
  ·rcases (HRow.out.below Hb.out).at_ with h0|⟨br,or,rfl,hc⟩
   ·omega
   have d0:=hc k hlt
   obtain⟨a,ha⟩:∃ a:Nat,S[k]=a:=⟨S[k].toNat,by have:=(HSl.out S[k] (List.getElem_mem _)).1;omega⟩
   have ha2:a<W.m.slots.length:=by have:=(HSl.out S[k] (List.getElem_mem _)).2;omega
   rw[ha] at d0
   rcases (HA1.out.below Hb.out).s.at_ with h0|⟨bs,os,rfl,hcs⟩
   ·omega
   have ms:=HA1.out.s.max
   have ms2:=HA1.out.s.le
   obtain⟨s0,s1,s2,s3,s4,s5⟩:=hcs a ha2
   have hsl:A8 W.m a=W.m.slots[a]:=H9 ha2
   generalize hM:W.m.slots[a]=s at s0 s1 s2 s3 s4 s5 hsl
   obtain⟨rf,ka,kb,u,inn,nx⟩:=s
   dsimp only at s0 s1 s2 s3 s4 s5
   have HKy:Hid (encK (L.take (k+1))=encK (L.take k) ++ [O J ka,O J kb]):=by
    have h1:L.take (k+1)=L.take k ++ [(ka,kb)]:=by
     have hlk:k<L.length:=by rw[HLn.out];exact hlt
     rw[List.take_succ_eq_append_getElem hlk]
     congr 2
     have:L[k]=keyAt W.m S[k]:=by simp[HL.out]
     rw[this,ha]
     unfold keyAt
     rw[hsl]
    show _=_
    rw[h1]
    simp[encK]
   have HN:Hid (∀ (j:Nat) (u:Value),[Value.int .i64 ka,O J kb][j]?=some u->(wr.alloc (.cells #[O J ka,O J kb] 30)).cell? ((⟨wr.heap.size,0,none⟩:Addr).add j)=some u):=fun j u hu=>a5c wr _ _ _ j u hu
   have ho:=HO.out
   have hsz:=Hb.out.size
   clear hc hcs hM hsl ha
   go_wp2_with (at_builtin;refine wpList_append_own_at _ rfl (.tmp 24) (.tmp 32) 45 rfl w1.heap.size 30 i0 (.agg #[O J 0,O J 0]) 2 16 Tryz.underlying45 hi0 hz0 hz1 hz2 rfl (by decide) _ _ _ rfl (ho.alloc _) ⟨wr.heap.size,0,none⟩ 1 1 [O J ka,O J kb] rfl rfl HN.out (by intro x hx;simp only[List.mem_cons,List.not_mem_nil,or_false] at hx;rcases hx with rfl|rfl <;> rfl) (by unfold maxLen;omega) (by omega) (by simp;omega) ?_;intro v2 w2 ho2 hg2 _ hloc2;obtain⟨g2,cap2,rfl⟩:=ownsRow_form ho2 (by omega))
   have HO2:Hid (w2.ownsRow w1.heap.size 30 2 (Y (some ⟨g2,0,none⟩) (k+1) cap2) (k+1) (encK (L.take (k+1)))):=by rw[HKy.out];exact ho2
   have Hb2:Hid (Below w1.heap.size w1 w2):=by
    have h1:=Hb.out.alloc Hb.out.size (.cells #[O J ka,O J kb] 30)
    refine⟨hg2.os.trans h1.os,hg2.tape.trans h1.tape,hg2.output.trans h1.output,Nat.le_trans h1.size hg2.size,fun j hj=>?_⟩
    rw[hg2.block j (by have:=h1.size;omega) (fun e=>by have:=(ho.lt j e.symm).1;omega)]
    exact h1.block j hj
   clear ho2 hg2 hloc2
   go_roundw
   case rel=>exact⟨k+1,by omega,by go_num,_,_,rfl,HO2,Hb2⟩
   case measure=>simp[intOf];omega
  ·have hkE:k=S.length:=by omega
   have HOe:Hid (KOwn wr w.heap.size a2 c2 L/\L.length=k):=by
    have h1:=HO.out
    have h2:=HLn.out
    rw[List.take_of_length_le (by omega)] at h1
    refine⟨⟨?_⟩,by omega⟩
    rw[show L.length=k by omega]
    exact ownsRow_le h1 Hb1.out.size
   have Hbe:Hid (Below w.heap.size w wr):=Hb1.out.trans (Hb.out.mono Hb1.out.size)
   clear HO Hb hkE
   go_wp2
   go_ret2
   exact⟨a2,c2,by rw[HOe.out.2];rfl,HOe.out.1,Hbe.out⟩
end
section
open Go.ChangeShapes Go.WideShapes Go.ChangeAt Go.RowKit Go.Joins Go.Deep Go.Maps
set_option maxHeartbeats 1600000 in
theorem Zj(a1 a2:Option Addr)(c1 c2:Nat)(l1 l2:List (Int × Int))(w:World)(r1:KRow w a1 c1 l1)(r2:KRow w a2 c2 l2) :
  Calls Tryz.prog 54 #[Y a1 l1.length c1,Y a2 l2.length c2] w fun e w'=>∃ B:Bool,e=.returned (.bool B)/\(l1=l2->B=true)/\Below w.heap.size w w':=by
 have m1:=r1.max
 have m2:=r2.max
 have HZ1:Hid _:=r1.at_
 have HZ2:Hid _:=r2.at_
 clear r1 r2
 by_cases hl:l1.length=l2.length
 rotate_left
 ·have hl':((l1.length:Int) != (l2.length:Int))=true:=by simp;omega
  have HN:Hid (l1=l2->False):=fun e=>hl (by rw[e])
  clear hl
  go_enter Tryz.func54,Tryz.ntmps54
  go_wp2
  go_ret
  exact⟨false,rfl,fun e=>(HN.out e).elim,Below.refl _ _⟩
 obtain⟨n,hn⟩:∃ n,n=l1.length:=⟨_,rfl⟩
 have Hn1:Hid (l1.length=n):=hn.symm
 have Hn2:Hid (l2.length=n):=by show _=_;omega
 rw[show l1.length=n from Hn1.out,show l2.length=n from Hn2.out]
 rw[show l1.length=n from Hn1.out] at m1
 clear hn hl m2
 go_enter Tryz.func54,Tryz.ntmps54
 go_wp2
 go_loopw [13] (fun i wr=>∃ k q:Nat,k<=n/\i=O J k/\wr=w.drewN q) (fun i _=>n - (intOf i).toNat)
 case atStart=>exact⟨0,0,Nat.zero_le _,rfl,rfl⟩
 case round =>
  obtain⟨k,q,hk,rfl,rfl⟩:=hrel
  by_cases hlt:k<n
  ·have k1:k<l1.length:=by rw[Hn1.out];exact hlt
   have k2:k<l2.length:=by rw[Hn2.out];exact hlt
   rcases HZ1.out with h0|⟨b1,o1,rfl,hc1⟩
   ·omega
   rcases HZ2.out with h0|⟨b2,o2,rfl,hc2⟩
   ·omega
   obtain⟨x0,x1⟩:=hc1 k k1
   obtain⟨y0,y1⟩:=hc2 k k2
   rw[<- World.cell?_drewN (n:=q)] at x0 x1 y0 y1
   have HNe:Hid ((l1[k].1==l2[k].1 && l1[k].2==l2[k].2)=false->l1=l2->False):=fun h e=>by
    subst e
    simp at h
   clear hc1 hc2
   generalize hwq:w.drewN q=wq at x0 x1 y0 y1 ⊢
   have HWQ:Hid _:=hwq
   clear hwq
   generalize l1[k].1=xa at x0 HNe
   generalize l1[k].2=xb at x1 HNe
   generalize l2[k].1=ya at y0 HNe
   generalize l2[k].2=yb at y1 HNe
   clear k1 k2
   have se:=Ls xa xb ya yb
   generalize (xa==ya && xb==yb)=R at se HNe
   cases R
   ·have HNf:Hid (l1=l2->False):=fun e=>HNe.out rfl e
    clear HNe
    go_wp2_with fail
    go_quiet (fail)
    go_wp2
    go_ret
    exact⟨false,rfl,fun e=>(HNf.out e).elim,by rw[<- HWQ.out,World.drewN_drewN];exact below_draws _ _ _⟩
   ·go_wp2_with fail
    go_quiet (fail)
    go_wp2
    go_roundw
    case rel=>exact⟨k+1,q+nq,by omega,by go_num,by rw[<- HWQ.out,World.drewN_drewN]⟩
    case measure=>simp[intOf];omega
  ·go_wp2
   go_ret
   exact⟨true,rfl,fun _=>rfl,below_draws _ _ _⟩
end
section
open Go.ChangeShapes Go.WideShapes Go.ChangeAt Go.RowKit Go.Joins Go.Deep Go.Maps
theorem Qu{w:World}{B:Nat}{p:Pst}{aK:Option Addr}{cK:Nat}(h:w.heap[B]?=some (.cells #[O J p.task,O J p.c.kind,O J p.c.a,O J p.c.b,O J p.c.time,O J p.c.bk,O J p.c.slot,O J p.fro,O J p.to,O J p.e,O J p.slot,O J p.n,Y aK p.keys.length cK] 78 (0,0))):w.cell? ⟨B,10,none⟩=some (O J p.slot)/\w.cell? ⟨B,7,none⟩=some (O J p.fro)/\w.cell? ⟨B,8,none⟩=some (O J p.to)/\w.cell? ⟨B,9,none⟩=some (O J p.e)/\w.cell? ⟨B,1,none⟩=some (O J p.c.kind)/\B<w.heap.size :=
 ⟨by rw[cell_of_block h];rfl,by rw[cell_of_block h];rfl,by rw[cell_of_block h];rfl,by rw[cell_of_block h];rfl,by rw[cell_of_block h];rfl,lt_of_block h⟩
theorem wl_P{ops:Array Oper}{rest:List Oper}{op:Oper}{a:Act}{w:World}{Q:Exit->Act->World->Prop}{p:Pst}{aK:Option Addr}{cK:Nat}{B o:Nat}(hgd:op.guard=none)(x:Operand)(ho:op.op=.load 78 x)(hx:a.eval x=.pointer (some ⟨B,o,none⟩))(h:w.rangeAt B o (p.enc aK cK))(K:wpList Tryz.prog ops Q rest (a.put op.dst (.agg #[O J p.task,O J p.c.kind,O J p.c.a,O J p.c.b,O J p.c.time,O J p.c.bk,O J p.c.slot,O J p.fro,O J p.to,O J p.e,O J p.slot,O J p.n,Y aK p.keys.length cK])) w):wpList Tryz.prog ops Q (op :: rest) a w :=
 wpList_load_mid hgd 78 x ho B o hx (p.enc aK cK) _ h Tryz.underlying78 rfl (by kernel_rfl) K
theorem Xn{w w':World}{B o:Nat}{vs:List Value}(h:w.rangeAt B o vs)(e:w'.heap[B]?=w.heap[B]?):w'.rangeAt B o vs:=fun j v hv=>(World.cell?_of_block e).trans (h j v hv)
theorem Xa{w w1:World}{Z:Nat->Prop}{B o:Nat}{vs:List Value}(h:Fine w w1 Z)(hB:Z B\/w.heap.size<=B):Fine w (w1.setCells B o vs) Z :=
 ⟨(Ai _ _ _).1.trans h.os,(Ai _ _ _).2.1.trans h.tape,(Ai _ _ _).2.2.trans h.output,by rw[setCells_size];exact h.size,fun k h1 h2=>(Ad (fun e=>hB.elim (fun hz=>h2 (by rw[e];exact hz)) (fun hz=>by omega)) _ _ _).trans (h.block k h1 h2)⟩
theorem new_idle(a b n:Nat):∀ t∈(newW a b n).ts,t.busy=false:=fun t ht=>by
 unfold newW at ht
 rw[List.eq_of_mem_replicate ht]
 rfl
theorem Yu:∀ (l:List Pk) (n:Nat) (s:Rs),(runR n s l).past.length<=s.past.length+l.length
 | [],_,_=>Nat.le_refl _
 | x :: l,n,s=>by
  have h:=Yu l (n+1) (Ew n s x)
  have h2:(Ew n s x).past.length<=s.past.length+1:=by rw[Yx];exact Ur _ _ _ _ _ _
  show (runR (n+1) (Ew n s x) l).past.length<=_
  rw[List.length_cons]
  omega
theorem Ya:∀ (pl:List (Pst × Option Addr × Nat)) (i j:Nat) (h:i<pl.length),j<13->(encP pl)[i*13+j]?=(pl[i].1.enc pl[i].2.1 pl[i].2.2)[j]?
 | [],i,j,h,_=>by simp at h
 | q :: pl,0,j,h,hj=>by
  rw[show encP (q :: pl)=q.1.enc q.2.1 q.2.2++encP pl from by simp[encP],List.getElem?_append_left (by rw[Nat.zero_mul,Nat.zero_add];exact hj)]
  simp
 | q :: pl,i+1,j,h,hj=>by
  have hl:(q.1.enc q.2.1 q.2.2).length=13:=rfl
  rw[show encP (q :: pl)=q.1.enc q.2.1 q.2.2++encP pl from by simp[encP],List.getElem?_append_right (by rw[hl];omega),hl,show (i+1)*13+j - 13=i*13+j by omega]
  exact Ya pl i j (by simpa using h) hj
end
section
open Go.ChangeShapes Go.WideShapes Go.ChangeAt Go.RowKit Go.Joins Go.Deep Go.Maps
structure WV where
 aS:Option Addr
 aH:Option Addr
 aF:Option Addr
 aL:Option Addr
 cS:Nat
 cH:Nat
 cF:Nat
 cL:Nat
 aT:Option Addr
 cT:Nat
def WV.enc(q:WV)(W:Wd):List Value:=[Y q.aS W.m.slots.length q.cS,Y q.aH W.m.heads.length q.cH,Y q.aF W.m.free.length q.cF,Y q.aL W.m.locks.length q.cL,O J W.m.now,Y q.aT W.ts.length q.cT]
def Ji(l:List (Wd × WV)):List Value:=l.flatMap fun q=>q.2.enc q.1
theorem a1w(l l':List (Wd × WV)):Ji (l++l')=Ji l++Ji l':=by simp[Ji]
theorem Vo:∀ (pl:List (Wd × WV)) (i j:Nat) (h:i<pl.length),j<6->(Ji pl)[i*6+j]?=(pl[i].2.enc pl[i].1)[j]?
 | [],i,j,h,_=>by simp at h
 | q :: pl,0,j,h,hj=>by
  rw[show Ji (q :: pl)=q.2.enc q.1++Ji pl from by simp[Ji],List.getElem?_append_left (by rw[Nat.zero_mul,Nat.zero_add];exact hj)]
  simp
 | q :: pl,i+1,j,h,hj=>by
  have hl:(q.2.enc q.1).length=6:=rfl
  rw[show Ji (q :: pl)=q.2.enc q.1++Ji pl from by simp[Ji],List.getElem?_append_right (by rw[hl];omega),hl,show (i+1)*6+j - 6=i*6+j by omega]
  exact Vo pl i j (by simpa using h) hj
def Sits(w:World)(X:Nat)(v:Value)(q:Wd × WV):Prop:=∃ a b,WIn a b w (.agg (q.2.enc q.1).toArray) q.1/\b<=w.heap.size/\¬ (a<=X/\X<b)/\∀ g,v.ownBlock=some g->¬ (a<=g/\g<b)
structure Ws(lo X:Nat)(w:World)(v:Value)(wl:List (Wd × WV)):Prop where
 row:w.ownsRow lo 28 6 v wl.length (Ji wl)
 el:∀ q∈wl,Sits w X v q
 lo:X<lo
theorem Sits.below{w w':World}{X:Nat}{v:Value}{q:Wd × WV}(h:Sits w X v q)(hb:Below w.heap.size w w'):Sits w' X v q:=by
 obtain⟨a,b,h1,h2,h3,h4⟩:=h
 exact⟨a,b,h1.same fun j h5 h6=>hb.block j (by omega),Nat.le_trans h2 hb.size,h3,h4⟩
theorem Ws.below{lo X:Nat}{w w':World}{v:Value}{wl:List (Wd × WV)}(h:Ws lo X w v wl)(hb:Below w.heap.size w w'):Ws lo X w' v wl :=
 ⟨Cf h.row fun g hg=>hb.block g (h.row.lt g hg).2,fun q hq=>(h.el q hq).below hb,h.lo⟩
theorem Ws.off{lo X:Nat}{w w':World}{v:Value}{wl:List (Wd × WV)}(h:Ws lo X w v wl)(hs:w.heap.size<=w'.heap.size)(hk:∀ j,j≠X->w'.heap[j]?=w.heap[j]?):Ws lo X w' v wl:=by
 refine⟨Cf h.row fun g hg=>hk g (by have:=(h.row.lt g hg).1;have:=h.lo;omega),fun q hq=>?_,h.lo⟩
 obtain⟨a,b,h1,h2,h3,h4⟩:=h.el q hq
 exact⟨a,b,h1.same fun j h5 h6=>hk j (fun e=>h3 ⟨by omega,by omega⟩),Nat.le_trans h2 hs,h3,h4⟩
theorem Ws.push{lo X:Nat}{w w1:World}{v v':Value}{wl:List (Wd × WV)}{q:Wd × WV}{ob:Obj}(h:Ws lo X w v wl)(hq:Sits w X v q)(hg:(w.alloc ob).grownBy w1 v.ownBlock)(ho:w1.ownsRow lo 28 6 v' (wl.length+1) (Ji wl++q.2.enc q.1))(hl:v'.ownBlock=v.ownBlock\/v'.ownBlock=some (w.alloc ob).heap.size):Ws lo X w1 v' (wl ++ [q]):=by
 have hk:∀ k,k<w.heap.size->v.ownBlock≠some k->w1.heap[k]?=w.heap[k]?:=fun k hk hn=>by
  rw[hg.block k (by simp;omega) (fun e=>hn e.symm),Below.heap_alloc _ _ _ hk]
 have hs:w.heap.size<=w1.heap.size:=by have:=hg.size;simp at this;omega
 have all:∀ p,Sits w X v p->Sits w1 X v' p:=by
  rintro p ⟨a,b,h1,h2,h3,h4⟩
  refine⟨a,b,h1.same fun j h5 h6=>hk j (by omega) (fun e=>h4 j e ⟨h5,h6⟩),Nat.le_trans h2 hs,h3,fun g e hx=>?_⟩
  rcases hl with hl|hl
  ·exact h4 g (hl ▸ e) hx
  ·rw[hl] at e
   injection e with e
   simp at e
   omega
 refine⟨?_,fun p hp=>?_,h.lo⟩
 ·rw[List.length_append,a1w,show Ji [q]=q.2.enc q.1 by simp[Ji]]
  exact ho
 ·rcases List.mem_append.1 hp with hp|hp
  ·exact all p (h.el p hp)
  ·rw[List.mem_singleton] at hp;subst hp;exact all p hq
theorem Ws.at{lo X:Nat}{w:World}{v:Value}{wl:List (Wd × WV)}(h:Ws lo X w v wl){j:Nat}(hj:j<wl.length):∃ g c,v=Y (some ⟨g,0,none⟩) wl.length c/\wl.length<=c/\w.rangeAt g (j*6) (wl[j].2.enc wl[j].1)/\WAns 0 w (.agg (wl[j].2.enc wl[j].1).toArray) wl[j].1:=by
 obtain⟨av,cv,rfl⟩:=Cb h.row
 obtain⟨g,rfl,hc,-,hg,hcell⟩:=We h.row (by omega)
 obtain⟨a,b,h1,-⟩:=h.el _ (List.getElem_mem hj)
 refine⟨g,cv,rfl,hc,fun i u hu=>?_,(h1 w (fun _ _ _=>rfl)).mono (Nat.zero_le _)⟩
 have hi:i<6:=(List.getElem?_eq_some_iff.1 hu).1
 rw[hcell _ (by omega),Vo wl j i hj hi]
 exact hu
theorem wrap_small{t:Nat}(h:t<=1000):wrap64 ((t:Int)+1)=((t+1:Nat):Int)/\IntKind.i64.wrap ((t:Int)+1)=((t+1:Nat):Int):=⟨by unfold wrap64;omega,by rw[IntKind.wrap_i64];omega⟩
theorem iW:(Tryz.prog.info? 28).map (fun i=>(i.zero,i.size,i.bytes))=some (some (.agg #[Y none 0 0,Y none 0 0,Y none 0 0,Y none 0 0,O J 0,Y none 0 0]),6,128):=by kernel_rfl
theorem a4k(W:World)(v0 v1 v2 v3 v4 v5:Value)(t:TypeId):∀ (j:Nat) u,[v0,v1,v2,v3,v4,v5][j]?=some u->(W.alloc (.cells #[v0,v1,v2,v3,v4,v5] t)).cell? ((⟨W.heap.size,0,none⟩:Addr).add j)=some u:=by
 intro j u hu
 match j,hu with
 | 0,hu=>cases hu;exact(cell_of_block (heap_alloc_new W _) _).trans rfl
 | 1,hu=>cases hu;exact(cell_of_block (heap_alloc_new W _) _).trans rfl
 | 2,hu=>cases hu;exact(cell_of_block (heap_alloc_new W _) _).trans rfl
 | 3,hu=>cases hu;exact(cell_of_block (heap_alloc_new W _) _).trans rfl
 | 4,hu=>cases hu;exact(cell_of_block (heap_alloc_new W _) _).trans rfl
 | 5,hu=>cases hu;exact(cell_of_block (heap_alloc_new W _) _).trans rfl
 | j+6,hu=>simp at hu
theorem Ws.one{lo X:Nat}{w:World}{q:Wd × WV}(hlo:lo<=w.heap.size)(hX:X<lo)(h:∃ a b,WIn a b w (.agg (q.2.enc q.1).toArray) q.1/\b<=w.heap.size/\¬ (a<=X/\X<b)):Ws lo X (w.alloc (.cells (q.2.enc q.1).toArray 28)) (Y (some ⟨w.heap.size,0,none⟩) 1 1) [q]:=by
 obtain⟨a,b,h1,h2,h3⟩:=h
 refine⟨?_,fun p hp=>?_,hX⟩
 ·refine⟨by simp[Ji,WV.enc],.inr ⟨w.heap.size,1,(q.2.enc q.1).toArray,rfl,hlo,heap_alloc_new _ _,Nat.le_refl _,?_,?_,?_⟩⟩
  ·unfold maxLen;omega
  ·rfl
  ·simp[Ji,WV.enc]
 ·rw[List.mem_singleton] at hp
  subst hp
  refine⟨a,b,h1.same fun j h5 h6=>(Aa _ _).block j (by omega),by simp;omega,h3,fun g e hx=>?_⟩
  have e':w.heap.size=g:=by injection e
  omega
end
section
open Go.ChangeShapes Go.WideShapes Go.ChangeAt Go.RowKit Go.Joins Go.Deep Go.Maps
theorem Nq{P:Program}{ops:Array Oper}{Q:Exit->Act->World->Prop}{i:Nat}{op:Oper}{a:Act}{w:World}{K:Act->World->Prop}(hi:ops[i]?=some op)(hg:op.guard=none)(ty:TypeId)(x:Operand)(ho:op.op=.load ty x)
  (b o:Nat) (hx:a.eval x=.pointer (some ⟨b,o,none⟩)) (cs:List Value) (d:TypeDesc) (hc:w.rangeAt b o cs) (hu:P.underlying ty=some d) (hd:d.isRow=true) (hs:(P.info? ty).map (·.size)=some cs.length)
  (h:K (a.put op.dst (.agg cs.toArray)) w):wpOp P ops Q i K a w:=by
 refine wpOp_step hi fun K' hK=>?_
 rw[if_pos (Ae hg)]
 exact wp_load_mid ty x ho b o hx cs d hc hu hd hs (hK _ _ h)
theorem L8{P:Program}{ops:Array Oper}{Q:Exit->Act->World->Prop}{i:Nat}{op:Oper}{a:Act}{w:World}{K:Act->World->Prop}(hi:ops[i]?=some op)(hg:op.guard=none)(ty:TypeId)(x y:Operand)(ho:op.op=.store ty x y)
  (b o:Nat) (cells:Array Value) (hx:a.eval x=.pointer (some ⟨b,o,none⟩)) (hy:a.eval y=.agg cells) (ht:w.there b o cells.size) (hs:(P.info? ty).map (·.size)=some cells.size) (h1:cells.all (·.oneCell')=true)
  (h:K (a.put op.dst undef) (w.setCells b o cells.toList)):wpOp P ops Q i K a w:=by
 refine wpOp_step hi fun K' hK=>?_
 rw[if_pos (Ae hg)]
 exact wp_store_mid ty x y ho b o cells hx hy ht hs h1 (hK _ _ h)
theorem Tz{W:World}{B:Nat}{cs:Array Value}{t:TypeId}{vs:List Value}(h:W.heap[B]?=some (.cells cs t (0,0)))(hl:vs.length=cs.size):Put1 W (W.setCells B 0 vs) B (.cells vs.toArray t (0,0)) :=
 ⟨Bg h hl,fun k hk=>Ad hk _ _ _,setCells_size _ _ _,(Ai _ _ _).1,(Ai _ _ _).2.1,(Ai _ _ _).2.2⟩
theorem nn1(n:Nat):¬ ((n:Int)+1<0):=by omega
theorem lt_int1{a b:Nat}(h:a<=b):(a:Int)<(b:Int)+1:=by omega
def Ns(x:Nat->Value):Act:=⟨#[x 0,x 1,x 2,x 3,x 4,x 5,x 6,x 7,x 8,x 9,x 10,x 11,x 12,x 13,x 14,x 15,x 16,x 17,x 18,x 19,x 20,x 21,x 22,x 23,x 24,x 25,x 26,x 27,x 28,x 29,x 30,x 31,x 32,x 33,x 34,x 35,x 36,x 37,x 38,x 39,x 40,x 41,x 42,x 43,x 44,x 45,x 46,x 47,x 48,x 49,x 50,x 51,x 52,x 53,x 54,x 55,x 56,x 57,x 58,x 59,x 60,x 61,x 62,x 63,x 64,x 65,x 66,x 67,x 68,x 69,x 70,x 71,x 72,x 73,x 74,x 75,x 76,x 77,x 78,x 79,x 80,x 81,x 82,x 83,x 84,x 85,x 86,x 87,x 88,x 89,x 90,x 91,x 92,x 93,x 94,x 95,x 96,x 97,x 98,x 99,x 100,x 101,x 102,x 103,x 104,x 105,x 106,x 107,x 108,x 109,x 110,x 111,x 112,x 113,x 114,x 115,x 116,x 117,x 118,x 119,x 120,x 121,x 122,x 123,x 124,x 125,x 126,x 127,x 128,x 129,x 130,x 131,x 132,x 133,x 134,x 135,x 136,x 137,x 138,x 139,x 140,x 141,x 142,x 143,x 144,x 145,x 146,x 147,x 148,x 149,x 150,x 151,x 152,x 153,x 154,x 155,x 156,x 157,x 158,x 159,x 160,x 161,x 162,x 163,x 164,x 165,x 166,x 167,x 168,x 169,x 170,x 171,x 172,x 173,x 174,x 175,x 176,x 177,x 178,x 179,x 180,x 181,x 182,x 183,x 184,x 185,x 186,x 187,x 188,x 189,x 190,x 191,x 192,x 193,x 194,x 195,x 196,x 197,x 198],[]⟩
def val12(g PB n cv fro to:Nat)(va vb:Value):Nat->Value
 | 0=>Y (some ⟨g,0,none⟩) n cv
 | 1=>.pointer (some ⟨PB,7,none⟩)
 | 2=>O J fro
 | 3=>.pointer (some ⟨g,fro*6,none⟩)
 | 4=>va
 | 5=>Y (some ⟨g,0,none⟩) n cv
 | 6=>.pointer (some ⟨PB,8,none⟩)
 | 7=>O J to
 | 8=>O J (to+1:Nat)
 | 9=>.pointer (some ⟨g,(to+1)*6,none⟩)
 | _=>vb
end
end Go.Proofs.YthhgoenomehobaaGreat.mm
