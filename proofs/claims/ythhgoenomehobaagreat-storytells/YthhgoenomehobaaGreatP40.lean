/- Parts. -/
import Derived.Test.YthhgoenomehobaaGreatP36
import Derived.Test.YthhgoenomehobaaGreatP21
namespace Go.Proofs.YthhgoenomehobaaGreat.mm
open Joins renaming block_setCell → dO
open List renaming range → aU, length_map → kN, any_eq_false → oM
open DataW renaming trod → kV, trod_bool → oK
open Go renaming lt_of_block → fC, bodyPost_ret → gZ, Calls → aI, undef → Uz, World → Wq
open Tryz
set_option maxRecDepth 100000
set_option linter.unusedVariables false
open Value renaming int → O, slice → Y
open IntKind renaming i64 → J
open Tryz renaming prog → Pg
open ChangeShapes WideShapes ChangeAt RowKit Joins Deep
set_option maxHeartbeats 0
variable {bn:Array Oper}{nz:List Oper}{op:Oper}{lo:Nat}{a:Act}{V:Wq}{W:Wd}{aS aH aF aL:Option Addr}{cS cH cF cL:Nat}{aT:Option Addr}{cT:Nat}{P:Program}{base:Nat}{iq:Nat->Bool}{kw:Bool}{t:TypeId}{f0 f1 f2 f3:Field}{qR:Nat}{cs:List Value}{c:Value}{M:Mm}(F:Nat)(qy:Array Value)(p:Fl->Bool)(ao:Option Addr)(bg:Nat)(l:List Fl)
section
theorem Yg:Pg.cellsOf 34=9:=by kernel_rfl
theorem a6k:Pg.bytesOf 34=64:=by kernel_rfl
variable {H:Type} {enc:TypeId × Value->H} {w:Wq}
theorem trod_struct4{x:DataW H × List MemPlace}(ht:P.underlying t=some (.struct #[f0,f1,f2,f3]))(h:kV enc P w base iq kw qR t cs=some x) :
  ∃ y0 y1 y2 y3 n,x.1=.agg [y0.1,y1.1,y2.1,y3.1]/\cs.length=P.cellsOf t/\kV enc P w base iq kw n f0.type ((cs.drop f0.offset).take (P.cellsOf f0.type))=some y0 /\
   kV enc P w base iq kw n f1.type ((cs.drop f1.offset).take (P.cellsOf f1.type))=some y1/\kV enc P w base iq kw n f2.type ((cs.drop f2.offset).take (P.cellsOf f2.type))=some y2 /\
   kV enc P w base iq kw n f3.type ((cs.drop f3.offset).take (P.cellsOf f3.type))=some y3:=by
 obtain⟨xs,n,_,rfl,hl,jb,hf⟩:=DataW.trod_struct ht h
 match xs,jb with
 | [y0,y1,y2,y3],_=>exact⟨y0,y1,y2,y3,n,by simp,hl,by simpa using hf 0 f0 rfl,by simpa using hf 1 f1 rfl,by simpa using hf 2 f2 rfl,by simpa using hf 3 f3 rfl⟩
theorem nine(h:cs.length=9):∃ c0 c1 c2 c3 c4 c5 c6 c7 c8,cs=[c0,c1,c2,c3,c4,c5,c6,c7,c8]:=by
 match cs,h with
 | [c0,c1,c2,c3,c4,c5,c6,c7,c8],_=>exact⟨_,_,_,_,_,_,_,_,_,rfl⟩
theorem a7s{x:DataW H × List MemPlace}(h:kV enc Pg w 0 (fun _=>true) true qR 34 cs=some x):∃ p:Pk,cs=[.int .i64 p.s,.bool p.step,.bool p.tick,.int .i64 p.c.k,.int .i64 p.c.a,.int .i64 p.c.b,.int .i64 p.c.t,.int .i64 p.c.q,.int .i64 p.c.h]:=by
 obtain⟨y0,y1,y2,y3,n,_,hl,h0,h1,h2,h3⟩:=trod_struct4 underlying34 h
 rw[Yg] at hl
 obtain⟨c0,c1,c2,c3,c4,c5,c6,c7,c8,rfl⟩:=nine hl
 simp only[Px,cells3,cells4] at h0 h1 h2 h3
 obtain⟨a,e0,_⟩:=DataW.trod_int underlying3 h0
 obtain⟨s,e1,_⟩:=oK underlying4 h1
 obtain⟨t,e2,_⟩:=oK underlying4 h2
 obtain⟨c,ec⟩:=Ul h3
 simp at e0 e1 e2 ec
 obtain⟨rfl,rfl,rfl,rfl,rfl,rfl⟩:=ec
 subst e0 e1 e2
 exact⟨⟨a,s,t,c⟩,rfl⟩
theorem open_prow{x:DataW H × List MemPlace}(h:kV enc Pg w 0 (fun _=>true) true qR 54 [c]=some x)(hz:∀ n∈x.1.weights Pg 54,n<=reachBytes) :
  ∃ l ao bg,c=.slice ao l.length bg/\H8 w ao bg l:=by
 rcases open_slice underlying54 h with ⟨e,-⟩|⟨a,len,bg,m,n,D,Pl,e,hb,hl,hm,yG,hx,hc⟩
 ·simp at e
  exact⟨[],none,0,e,Nat.zero_le _,by decide,fun _=>rfl,.inl rfl⟩
 ·simp at e yG
  subst e yG
  rw[Yg] at hc
  obtain⟨S,hS⟩:=@choose_lt Pk ⟨⟨0,false,false,⟨0,0,0,0,0,0⟩⟩⟩ len (fun i s=>w.cells? 0 (a.add (i*9)) 9=some [.int .i64 s.s,.bool s.step,.bool s.tick,.int .i64 s.c.k,.int .i64 s.c.a,.int .i64 s.c.b,.int .i64 s.c.t,.int .i64 s.c.q,.int .i64 s.c.h]) (fun i hi=>by
   obtain⟨cs',h1,h2⟩:=hc i (by omega)
   obtain⟨s,rfl⟩:=a7s h2
   exact⟨s,h1⟩)
  have gm:((aU len).map S).length=len:=by simp
  refine⟨(aU len).map S,some a,m,by rw[gm],by omega,?_,(fun h=>by cases h),?_⟩
  ·rw[hx] at hz
   have:=hz ((len+(m - len))*64) (by simp[DataW.weights,underlying54,a6k])
   unfold reachBytes at this
   rw[gm]
   omega
  ·by_cases h0:len=0
   ·left;omega
   ·right
    obtain⟨b,off,xq⟩:=a
    have uJ:xq=none:=by
     have:=(World.cells?_some (hS 0 (by omega))).2.2 0 (by omega)
     simpa [Addr.add] using World.cell?_spot this
    subst uJ
    refine⟨b,off,rfl,fun i hi=>?_⟩
    have uN:i<len:=by simpa using hi
    have e:((aU len).map S)[i]=S i:=by simp
    rw[e]
    intro q v hv
    have hq:q<9:=by simpa using (List.getElem?_eq_some_iff.1 hv).1
    have:=(World.cells?_some (hS i uN)).2.2 q hq
    rw[Addr.add_lit,Addr.add_lit] at this
    rw[this];exact hv
end
def b5l:Prop:=∀ w:Wq,aI Pg 18 #[] w fun e w'=>e=.returned (.bool true)/\Below w.heap.size w w'
section
open Maps
theorem Di.parts(h:Di lo V (.agg #[Y aS W.m.s.length cS,Y aH W.m.h.length cH,Y aF W.m.f.length cF,Y aL W.m.l.length cL,O J W.m.w,Y aT W.t.length cT]) W):∃ lt,At V aS aH aF aL cS cH cF cL W.m/\Hi4 lo aS aH aF aL/\W.t=lt.map (·.1)/\Gl V aT cT lt/\THi lo aT lt:=by
 obtain⟨bS,bH,bF,bL,dS,dH,dF,dL,bT,dT,lt,e,A,hi,tC,hT,wK⟩:=h
 have e1:=Value.agg.inj e
 simp only[Array.mk.injEq,List.cons.injEq,Value.slice.injEq,true_and,and_true] at e1
 obtain⟨⟨rfl,rfl⟩,⟨rfl,rfl⟩,⟨rfl,rfl⟩,⟨rfl,rfl⟩,rfl,rfl⟩:=e1
 exact⟨lt,A,hi,tC,hT,wK⟩
theorem a5g(hE:wE W=0){lo:Nat}{V:Wq}{aS aH aF aL:Option Addr}{cS cH cF cL:Nat}{aT:Option Addr}{cT:Nat}(h:Di lo V (.agg #[Y aS W.m.s.length cS,Y aH W.m.h.length cH,Y aF W.m.f.length cF,Y aL W.m.l.length cL,O J W.m.w,Y aT W.t.length cT]) W) :
  aI Pg 19 #[Ew aS aH aF aL cS cH cF cL aT cT W] V fun e V'=>e=.returned (O J 0)/\Below V.heap.size V V':=by
 unfold Ew
 obtain⟨lt,A,hi,tC,hT,wK⟩:=h.parts
 have h:=Qr W.m lt aS aH aF aL cS cH cF cL aT cT V A hT
 have xw:lt.length=W.t.length:=by rw[tC,kN]
 rw[<- tC,xw,show wE ⟨W.m,W.t⟩=0 from hE] at h
 exact h
theorem a5l(hE:wE W=0)(hC:Gu W.m=0){lo:Nat}{w:Wq}{aS aH aF aL:Option Addr}{cS cH cF cL:Nat}{aT:Option Addr}{cT:Nat}(h:Di lo w (.agg #[Y aS W.m.s.length cS,Y aH W.m.h.length cH,Y aF W.m.f.length cF,Y aL W.m.l.length cL,O J W.m.w,Y aT W.t.length cT]) W) :
  aI Pg 28 #[Ew aS aH aF aL cS cH cF cL aT cT W] w fun e w'=>∃ ao bg,e=.returned (.tuple #[Y ao (Gn W.m).length bg,O J 0])/\w'.ownsRow w.heap.size 61 4 (Y ao (Gn W.m).length bg) (Gn W.m).length (Hr (Gn W.m))/\Below w.heap.size w w':=by
 unfold Ew
 obtain⟨ox,jq⟩:∃ o:Obj,o=.cells #[Y aS W.m.s.length cS,Y aH W.m.h.length cH,Y aF W.m.f.length cF,Y aL W.m.l.length cL,O J W.m.w,Y aT W.t.length cT] 28:=⟨_,rfl⟩
 have b0:Below w.heap.size w (w.alloc ox):=A7 w ox
 have ni:Qi ((w.alloc ox).heap[w.heap.size]?=some ox):=heap_alloc_new w ox
 have lq:Qi (Di lo (w.alloc ox) (.agg #[Y aS W.m.s.length cS,Y aH W.m.h.length cH,Y aF W.m.f.length cF,Y aL W.m.l.length cL,O J W.m.w,Y aT W.t.length cT]) W):=h.below b0
 have HI:Qi (wE W=0):=hE
 have PZ:Qi (Gu W.m=0):=hC
 obtain⟨L,hL⟩:∃ L,L=Gn W.m:=⟨_,rfl⟩
 have HL:Qi (L=Gn W.m):=hL
 rw[<- hL]
 subst jq
 have l6:Qi ((w.alloc (.cells #[Y aS W.m.s.length cS,Y aH W.m.h.length cH,Y aF W.m.f.length cF,Y aL W.m.l.length cL,O J W.m.w,Y aT W.t.length cT] 28)).rangeAt w.heap.size 0 [Y aS W.m.s.length cS,Y aH W.m.h.length cH,Y aF W.m.f.length cF,Y aL W.m.l.length cL,O J W.m.w,Y aT W.t.length cT]):=Aq ni.o rfl
 clear h hE hC hL
 go_enter func28,ntmps28
 go_wp2_with (refine F8 rfl _ rfl rfl l6.o ?_)
 generalize w.alloc _=W0 at *
 clear l6
 refine(a5g HI.o lq.o).mono ?_
 rintro e w1 ⟨rfl,bu⟩
 have ug:Qi (w1.heap[w.heap.size]?=_):=(bu.block _ (fC ni.o)).trans ni.o
 have rW:Qi (Di lo w1 (.agg #[Y aS W.m.s.length cS,Y aH W.m.h.length cH,Y aF W.m.f.length cF,Y aL W.m.l.length cL,O J W.m.w,Y aT W.t.length cT]) W):=lq.o.below bu
 have b1:Below w.heap.size w w1:=b0.trans (bu.mono b0.size)
 clear ni lq bu b0
 have l5:Qi (w1.rangeAt w.heap.size 0 [Y aS W.m.s.length cS,Y aH W.m.h.length cH,Y aF W.m.f.length cF,Y aL W.m.l.length cL,O J W.m.w]):=Aq ug.o rfl
 go_wp2_with (refine a4z rfl _ rfl rfl l5.o ?_)
 obtain⟨lt,A1,-,-,-,-⟩:=rW.o.parts
 refine(Yr W.m aS aH aF aL cS cH cF cL w1 A1).mono ?_
 rw[PZ.o,<- HL.o]
 rintro e w2 ⟨ao,bg,rfl,hR,dm⟩
 have HR:Qi (w2.ownsRow w.heap.size 61 4 (Y ao L.length bg) L.length (Hr L)):=ownsRow_le hR b1.size
 have b2:Below w.heap.size w w2:=b1.trans (dm.mono b1.size)
 clear hR dm b1 ug rW l5 A1
 go_wp2
 go_ret2
 exact⟨ao,bg,rfl,HR.o,b2⟩
end
section
open Maps
theorem a3e(h:OkC M):Gn M=Eb M:=by unfold Gn Eb;rw[af ((Kq _).2 h)]
theorem a1b(h:OkC M):(Eb M).length<=12:=by
 unfold Eb
 rw[kN]
 have:=b5t _ _ (U0 h.t) h.a9g
 have:=h.ok.ns
 omega
theorem Ho.own{w:Wq}{lo c:Nat}{a:Option Addr}{l:List Fl}(h:w.ownsRow lo 61 4 (Y a l.length c) l.length (Hr l))(hm:l.length<=12):Ho w a c l:=by
 obtain⟨ao,bg,e,r⟩:=Ho.He h (by omega)
 injection e with e1 e2 e3
 subst e1 e3
 exact r
end
section
open Maps
structure Mo where
 on:Bool
 fl:Fl
 w:Int
def b0o(o:Option Fl)(t:Int):Mo :=
 match o with
 | some f=>⟨true,f,t⟩
 | none=>⟨false,⟨0,0,0,0⟩,t⟩
def N7(m:Mm)(a b:Int):Mo:=b0o (ofK (Eb m) a b) m.w
theorem a5i{p:Fl->Bool}{l:List Fl}{k:Nat}(h:k<l.length)(h0:(l.take k).any p=false)(hx:p l[k]=true):l.find? p=l[k]?:=by
 have e:l=l.take k++l[k] :: l.drop (k+1):=by rw[<- List.drop_eq_getElem_cons h,List.take_append_drop]
 have h1:(l.take k).find? p=none:=by
  rw[List.find?_eq_none]
  intro x LP
  have:=oM.1 h0 x LP
  simpa using this
 rw[List.getElem?_eq_getElem h]
 conv=>lhs;rw[e]
 rw[List.find?_append,h1,Option.none_or,List.find?_cons_of_pos hx]
theorem a5j{p:Fl->Bool}{l:List Fl}(h:l.any p=false):l.find? p=none:=by
 rw[List.find?_eq_none]
 intro x hx
 have:=oM.1 h x hx
 simpa using this
theorem idxFl(w:Wq)(jc:Ho w ao bg l)(hF:∀ args W,(callFunc F args).run Pg W=.ok (.enter F args) W)(hp:∀ (x:Fl) W,Below w.heap.size w W->aI Pg F (#[.agg #[O J x.a,O J x.b,O J x.h,O J x.unt]] ++ qy) W fun e W'=>e=.returned (.bool (p x))/\Below W.heap.size W W') :
  aI Pg 155 #[Y ao l.length bg,.func (.func F) #[] qy] w fun e w'=>∃ i:Int,e=.returned (O J i)/\(i=-1/\l.find? p=none\/∃ k:Nat,i=k/\k<l.length/\l.find? p=l[k]?)/\Below w.heap.size w w':=by
 have m1:=jc.max
 have wQ:Qi (Ho w ao bg l):=jc
 have HP:Qi (∀ (x:Fl) W,Below w.heap.size w W->aI Pg F (#[.agg #[O J x.a,O J x.b,O J x.h,O J x.unt]] ++ qy) W fun e W'=>e=.returned (.bool (p x))/\Below W.heap.size W W'):=hp
 have DT:Qi (∀ args W,(callFunc F args).run Pg W=.ok (.enter F args) W):=hF
 clear jc hp hF
 go_enter func155,ntmps155
 go_wp2
 go_loopw [8] (fun i wr=>∃ k:Nat,k<=l.length/\i=O J k/\Qi (Below w.heap.size w wr)/\Qi ((l.take k).any p=false)) (fun i _=>l.length - (intOf i).toNat)
 case atStart=>exact⟨0,Nat.zero_le _,rfl,Below.refl _ _,by show _=_;simp⟩
 case round =>
  obtain⟨k,hk,rfl,HB,HC⟩:=hrel
  by_cases gm:k<l.length
  ·rcases (wQ.o.below HB.o).at_ with h0|⟨bk,ok,rfl,hc⟩
   ·omega
   obtain⟨c0,c1,c2,c3⟩:=hc k gm
   clear hc
   generalize hy:l[k]=y at c0 c1 c2 c3
   have HX:Qi (l[k]=y):=hy
   clear hy
   go_wp2_with fail
   rw[DT.o]
   refine(HP.o y wr HB.o).mono ?_
   rintro e w1 ⟨rfl,bu⟩
   have iy:Qi (Below w.heap.size w w1):=HB.o.trans (bu.mono HB.o.size)
   clear bu c0 c1 c2 c3
   cases hh:p y
   ·have HH:Qi ((l.take (k+1)).any p=false):=a0k gm HC.o (by rw[HX.o];exact hh)
    go_wp2
    go_roundw
    case rel=>exact⟨k+1,by omega,by go_num,iy,HH⟩
    case measure=>simp[intOf];omega
   ·have HH:Qi (l.find? p=l[k]?):=a5i gm HC.o (by rw[HX.o];exact hh)
    go_wp2
    go_ret
    exact⟨k,rfl,.inr ⟨k,rfl,gm,HH.o⟩,iy.o⟩
  ·have HH:Qi (l.any p=false):=by
    have:=HC.o
    rw[show k=l.length by omega,List.take_length] at this
    exact this
   go_wp2
   go_ret
   exact⟨-1,rfl,.inl ⟨rfl,a5j HH.o⟩,HB.o⟩
theorem fnMo:∀ args W,(callFunc 156 args).run Pg W=.ok (.enter 156 args) W:=fun _ _=>by kernel_rfl
theorem litMo(a b:Int)(B:Nat)(x:Fl)(w:Wq)(hB:w.heap[B]?=some (.cells #[O J a,O J b] 30 (0,0))) :
  aI Pg 156 (#[.agg #[O J x.a,O J x.b,O J x.h,O J x.unt]] ++ #[.pointer (some ⟨B,0,none⟩)]) w fun e w'=>e=.returned (.bool (x.a==a && x.b==b))/\Below w.heap.size w w':=by
 have ke:=Zq x.a x.b a b
 have c0:w.cell? ⟨B,0,none⟩=some (O J a):=by rw[cell_of_block hB];rfl
 have c1:w.cell? ⟨B,1,none⟩=some (O J b):=by rw[cell_of_block hB];rfl
 have gm:=fC hB
 have b0:Below w.heap.size w (w.alloc (.cells #[O J x.a,O J x.b,O J x.h,O J x.unt] 61)):=A7 _ _
 generalize (x.a==a && x.b==b)=R at *
 clear hB
 go_enter func156,ntmps156
 go_wp2
 go_ret
 exact⟨rfl,b0⟩
theorem a6c{w:Wq}{Q:Exit->Act->Wq->Prop}{v0 v1 v2 v3 v4 v5:Value}{B o:Nat}(rY:op.guard=none)(x:Operand)(ho:op.op=.load 139 x)(hx:a.eval x=.pointer (some ⟨B,o,none⟩))(h:w.rangeAt B o [v0,v1,v2,v3,v4,v5])(K:wpList Pg bn Q nz (a.put op.dst (.agg #[v0,v1,v2,v3,v4,v5])) w):wpList Pg bn Q (op :: nz) a w :=
 wpList_load_mid rY 139 x ho B o hx [v0,v1,v2,v3,v4,v5] _ h underlying139 rfl (by kernel_rfl) K
theorem a6d{w:Wq}{Q:Exit->Act->Wq->Prop}{v0 v1 v2 v3 v4 v5:Value}{B o:Nat}(rY:op.guard=none)(x y:Operand)(ho:op.op=.store 139 x y)(hx:a.eval x=.pointer (some ⟨B,o,none⟩))(hy:a.eval y=.agg #[v0,v1,v2,v3,v4,v5])(h:w.there B o 6)(h1:(#[v0,v1,v2,v3,v4,v5].all (·.oneCell'))=true)(K:wpList Pg bn Q nz (a.put op.dst Uz) (w.setCells B o [v0,v1,v2,v3,v4,v5])):wpList Pg bn Q (op :: nz) a w :=
 wpList_store_mid rY 139 x y ho B o #[v0,v1,v2,v3,v4,v5] hx hy h (by kernel_rfl) h1 K
structure MoS(w w':Wq)(X Z:Nat)(x:Mo)(oz:Obj):Prop where
 box:w'.heap[X]?=some (.cells #[.bool x.on,O J x.fl.a,O J x.fl.b,O J x.fl.h,O J x.fl.unt,O J x.w] 139 (0,0))
 res:w'.heap[Z]?=some oz
 bl:Below w.heap.size w w'
theorem MoS.below{w w1 w2:Wq}{X Z:Nat}{x:Mo}{oz:Obj}(h:MoS w w1 X Z x oz)(hb:Below w1.heap.size w1 w2):MoS w w2 X Z x oz :=
 ⟨(hb.block _ (fC h.box)).trans h.box,(hb.block _ (fC h.res)).trans h.res,h.bl.trans (hb.mono h.bl.size)⟩
theorem b3w{w w3:Wq}{X Z:Nat}{f:Fl}{t:Int}{oz:Obj}(h:w3.heap[X]?=some (.cells #[.bool false,O J 0,O J 0,O J 0,O J 0,O J t] 139 (0,0)))(hz:w3.heap[Z]?=some oz)(hb:Below w.heap.size w w3)(hx:w.heap.size<=X)(iw:Z≠X) :
  MoS w (((((w3.setCell ⟨X,0,none⟩ (.bool true)).setCell ⟨X,1,none⟩ (O J f.a)).setCell ⟨X,2,none⟩ (O J f.b)).setCell ⟨X,3,none⟩ (O J f.h)).setCell ⟨X,4,none⟩ (O J f.unt)) X Z ⟨true,f,t⟩ oz:=by
 refine⟨?_,?_,((((hb.setCell hx _).setCell hx _).setCell hx _).setCell hx _).setCell hx _⟩
 ·exact dO (i:=4) (dO (i:=3) (dO (i:=2) (dO (i:=1) (dO (i:=0) h _) _) _) _) _
 ·repeat rw[Below.heap_setCell _ _ _ _ (by dsimp only;exact iw)]
  exact hz
theorem a1r(I:wE W=0/\Gu W.m=0)(ka kb:Int){lo:Nat}{w:Wq}{aS aH aF aL:Option Addr}{cS cH cF cL:Nat}{aT:Option Addr}{cT:Nat}(h:Di lo w (.agg #[Y aS W.m.s.length cS,Y aH W.m.h.length cH,Y aF W.m.f.length cF,Y aL W.m.l.length cL,O J W.m.w,Y aT W.t.length cT]) W) :
  aI Pg 132 #[Ew aS aH aF aL cS cH cF cL aT cT W,.agg #[O J ka,O J kb]] w fun e w'=>e=.returned (.tuple #[.agg #[.bool (N7 W.m ka kb).on,O J (N7 W.m ka kb).fl.a,O J (N7 W.m ka kb).fl.b,O J (N7 W.m ka kb).fl.h,O J (N7 W.m ka kb).fl.unt,O J (N7 W.m ka kb).w],O J 0])/\Below w.heap.size w w':=by
 unfold Ew
 obtain⟨R,hR⟩:∃ R,R=N7 W.m ka kb:=⟨_,rfl⟩
 rw[<- hR]
 have HR:Qi (R=b0o (ofK (Eb W.m) ka kb) W.m.w):=hR
 clear hR
 have HI:Qi (wE W=0/\Gu W.m=0):=I
 obtain⟨ox,jq⟩:∃ o:Obj,o=.cells #[Y aS W.m.s.length cS,Y aH W.m.h.length cH,Y aF W.m.f.length cF,Y aL W.m.l.length cL,O J W.m.w,Y aT W.t.length cT] 28:=⟨_,rfl⟩
 obtain⟨ok,qh⟩:∃ o:Obj,o=.cells #[O J ka,O J kb] 30:=⟨_,rfl⟩
 obtain⟨oz,bi⟩:∃ o:Obj,o=.cells #[.bool false,O J 0,O J 0,O J 0,O J 0,O J 0] 139:=⟨_,rfl⟩
 have mr:Qi (Env w (((w.alloc ox).alloc ok).alloc oz) [(w.heap.size+2,oz),(w.heap.size+1,ok),(w.heap.size,ox)] []):=by
  have h:=(((⟨Below.refl _ _,(fun p hp=>by cases hp),(fun p hp=>by cases hp)⟩:Env w w [] []).alloc ox).alloc ok).alloc oz
  rw[show (w.alloc ox).heap.size=w.heap.size+1 by simp,show ((w.alloc ox).alloc ok).heap.size=w.heap.size+2 by simp] at h
  exact h
 have lq:Qi (Di lo (((w.alloc ox).alloc ok).alloc oz) (.agg #[Y aS W.m.s.length cS,Y aH W.m.h.length cH,Y aF W.m.f.length cF,Y aL W.m.l.length cL,O J W.m.w,Y aT W.t.length cT]) W):=h.below mr.o.bl
 clear I h
 have l6:Qi ((((w.alloc (.cells #[Y aS W.m.s.length cS,Y aH W.m.h.length cH,Y aF W.m.f.length cF,Y aL W.m.l.length cL,O J W.m.w,Y aT W.t.length cT] 28)).alloc (.cells #[O J ka,O J kb] 30)).alloc (.cells #[.bool false,O J 0,O J 0,O J 0,O J 0,O J 0] 139)).rangeAt w.heap.size 0 [Y aS W.m.s.length cS,Y aH W.m.h.length cH,Y aF W.m.f.length cF,Y aL W.m.l.length cL,O J W.m.w,Y aT W.t.length cT]):=by subst jq qh bi;exact Aq (mr.o.box (w.heap.size,_) (.tail _ (.tail _ (.head _)))) rfl
 go_enter func132,ntmps132
 go_wp2_with (refine F8 rfl _ rfl rfl l6.o ?_)
 rw[<- jq,<- qh,<- bi]
 rw[<- jq,<- qh,<- bi] at l6
 clear l6
 generalize ((w.alloc ox).alloc ok).alloc oz=V0 at *
 refine(a5l HI.o.1 HI.o.2 lq.o).mono ?_
 rw[a3e ((Kq _).1 HI.o.2)]
 rintro e w2 ⟨ao,bg,rfl,hO,dm⟩
 have BG:=a1b ((Kq _).1 HI.o.2)
 obtain⟨L,hL⟩:∃ L,L=Eb W.m:=⟨_,rfl⟩
 rw[<- hL] at hO BG ⊢
 rw[<- hL] at HR
 have HF:Qi (Ho w2 ao bg L):=Ho.own hO BG
 have MW:Qi (∀ b o,ao=some ⟨b,o,none⟩->0<L.length->b<w2.heap.size):=fun b o e h0=>by
  rcases HF.o.at_ with h1|⟨b',o',e',hc⟩
  ·omega
  ·rw[e'] at e;cases e;exact cell_lt (hc 0 h0).1
 have hxv:w.heap.size+2<w2.heap.size:=fC ((mr.o.below dm).box (w.heap.size+2,_) (.head _))
 obtain⟨ov,UB⟩:∃ o:Obj,o=.cells #[.bool false,O J 0,O J 0,O J 0,O J 0,O J W.m.w] 139:=⟨_,rfl⟩
 have ai:Qi (Env w (w2.alloc ov) [(w2.heap.size,ov),(w.heap.size+2,oz),(w.heap.size+1,ok),(w.heap.size,ox)] []):=(mr.o.below dm).alloc ov
 have FQ:Qi (Ho (w2.alloc ov) ao bg L):=HF.o.below (A7 _ _)
 have hX2:=(mr.o.below dm).box (w.heap.size,_) (.tail _ (.tail _ (.head _)))
 rw[jq] at hX2
 obtain⟨y0,y1,y2,y3,y4,y5,ys⟩:=Bh hX2
 clear hL hO dm mr lq HF hX2
 go_wp2_with fail
 rw[<- UB]
 generalize w2.heap.size=XV at *
 generalize w2.alloc ov=V2 at *
 clear y0 y1 y2 y3 y4 y5 ys
 have HKb:Qi (V2.heap[w.heap.size+1]?=some ok):=ai.o.box (w.heap.size+1,_) (.tail _ (.tail _ (.head _)))
 refine(idxFl 156 #[.pointer (some ⟨w.heap.size+1,0,none⟩)] (fun f=>f.a==ka && f.b==kb) ao bg L V2 FQ.o fnMo (fun x V hb=>litMo ka kb (w.heap.size+1) x V (by rw[<- qh];exact(hb.block _ (fC HKb.o)).trans HKb.o))).mono ?_
 rintro e w3 ⟨i,rfl,hi,gu⟩
 have di:Qi (Env w w3 [(XV,ov),(w.heap.size+2,oz),(w.heap.size+1,ok),(w.heap.size,ox)] []):=ai.o.below gu
 have zF:Qi (Ho w3 ao bg L):=FQ.o.below gu
 clear ai FQ gu HKb
 have QS:=di.o.box (XV,_) (.head _)
 have hZ:=di.o.box (w.heap.size+2,_) (.tail _ (.head _))
 rw[UB] at QS
 rw[bi] at hZ
 obtain⟨x0,x1,x2,x3,x4,x5,xs⟩:=Bh QS
 obtain⟨z0,z1,z2,z3,z4,z5,zs⟩:=Bh hZ
 have t6:Qi (w3.there (w.heap.size+1+1) 0 6):=Be hZ (by simp)
 rcases hi with ⟨rfl,hn⟩|⟨k,rfl,ut,hfd⟩
 ·have yJ:R=⟨false,⟨0,0,0,0⟩,W.m.w⟩:=by
   rw[HR.o];unfold ofK;rw[hn];rfl
  subst yJ
  obtain⟨W4,tK⟩:∃ W4,W4=w3.setCells (w.heap.size+1+1) 0 [.bool false,O J 0,O J 0,O J 0,O J 0,O J W.m.w]:=⟨_,rfl⟩
  have MC:W4.heap[w.heap.size+1+1]?=some (.cells #[.bool false,O J 0,O J 0,O J 0,O J 0,O J W.m.w] 139 (0,0)):=by rw[tK];exact Bi hZ rfl
  have b4:Below w.heap.size w W4:=by rw[tK];exact Bd di.o.bl (by omega)
  obtain⟨u0,u1,u2,u3,u4,u5,us⟩:=Bh MC
  clear MC z0 z1 z2 z3 z4 z5 zs di zF hn QS hZ HR
  go_wp2_with (refine a6d rfl _ _ rfl rfl rfl t6.o (by kernel_rfl) ?_;rw[<- tK];clear tK t6)
  refine gZ (v:=.tuple #[.agg #[.bool false,O J 0,O J 0,O J 0,O J 0,O J W.m.w],O J 0]) (by simp[results,results132,go_sem,u0,u1,u2,u3,u4,u5]) rfl ?_
  exact⟨rfl,b4⟩
 ·rcases zF.o.at_ with h0|⟨bf,of,rfl,hc⟩
  ·omega
  obtain⟨c0,c1,c2,c3⟩:=hc k ut
  obtain⟨f,hf⟩:∃ f,f=L[k]:=⟨_,rfl⟩
  rw[<- hf] at c0 c1 c2 c3
  have yJ:R=⟨true,f,W.m.w⟩:=by
   rw[HR.o];unfold ofK;rw[hfd,List.getElem?_eq_getElem ut,<- hf];rfl
  subst yJ
  have QR:bf<XV:=MW.o bf of rfl (by omega)
  have rE:bf≠XV:=by omega
  have hn2:XV≠bf:=by omega
  have f0:=fun j=>unfrozen_of_block QS j
  have HS:Qi (MoS w _ XV (w.heap.size+1+1) ⟨true,f,W.m.w⟩ (.cells #[.bool false,O J 0,O J 0,O J 0,O J 0,O J 0] 139)):=b3w (f:=f) QS hZ di.o.bl (by omega) (by omega)
  clear zF di QS hZ hfd hf hc MW t6 z0 z1 z2 z3 z4 z5 zs hxv BG
  go_wp2_with fail
  rename_i K0 Q0 qO
  apply Ey (R:=fun a=>∀ W2:Wq,MoS w W2 XV (w.heap.size+1+1) ⟨true,f,W.m.w⟩ (.cells #[.bool false,O J 0,O J 0,O J 0,O J 0,O J 0] 139)->K0 a W2)
  ·intro gq
   have pg:Qi _:=gq
   clear gq
   go_region
   all_goals exact pg.o _ (HS.o.below ⟨rfl,rfl,rfl,Nat.le_refl _,fun _ _=>rfl⟩)
  intro w5 h5
  have H5:Qi _:=h5
  refine qO _ _ ?_
  clear h5 qO HS x0 x1 x2 x3 x4 x5 xs f0 c0 c1 c2 c3
  have hZ:=H5.o.res
  have t6:Qi (w5.there (w.heap.size+1+1) 0 6):=Be hZ (by simp)
  have lm:Qi (w5.rangeAt XV 0 [.bool true,O J f.a,O J f.b,O J f.h,O J f.unt,O J W.m.w]):=Aq H5.o.box rfl
  obtain⟨W4,tK⟩:∃ W4,W4=w5.setCells (w.heap.size+1+1) 0 [.bool true,O J f.a,O J f.b,O J f.h,O J f.unt,O J W.m.w]:=⟨_,rfl⟩
  have MC:W4.heap[w.heap.size+1+1]?=some (.cells #[.bool true,O J f.a,O J f.b,O J f.h,O J f.unt,O J W.m.w] 139 (0,0)):=by rw[tK];exact Bi hZ rfl
  have b4:Below w.heap.size w W4:=by rw[tK];exact Bd H5.o.bl (by omega)
  obtain⟨u0,u1,u2,u3,u4,u5,us⟩:=Bh MC
  clear MC hZ H5
  go_wp2_with (first|refine a6c rfl _ rfl rfl lm.o ?_|(refine a6d rfl _ _ rfl rfl rfl t6.o (by kernel_rfl) ?_;rw[<- tK];clear tK t6))
  refine gZ (v:=.tuple #[.agg #[.bool true,O J f.a,O J f.b,O J f.h,O J f.unt,O J W.m.w],O J 0]) (by simp[results,results132,go_sem,u0,u1,u2,u3,u4,u5]) rfl ?_
  exact⟨rfl,b4⟩
end
section
open Maps
def wEr(W:Wd):Int:=if wE W≠0 then wE W else Gu W.m
theorem Pv:wEr W=0 ↔ wE W=0/\Gu W.m=0:=by
 unfold wEr
 by_cases h:wE W=0
 ·rw[ae (by simpa using h)];simp[h]
 ·rw[af h];simp[h]
def Md:Wd->List Pk->Int
 | _,[]=>0
 | W,x :: l=>if wEr (Et W x)≠0 then wEr (Et W x) else Md (Et W x) l
def inE(W:Wd)(l:List Pk):Int:=if wEr W≠0 then wEr W else Md W l
theorem a0s{lo:Nat}{V:Wq}{aS aH aF aL:Option Addr}{cS cH cF cL:Nat}{aT:Option Addr}{cT:Nat}(h:Di lo V (.agg #[Y aS W.m.s.length cS,Y aH W.m.h.length cH,Y aF W.m.f.length cF,Y aL W.m.l.length cL,O J W.m.w,Y aT W.t.length cT]) W) :
  aI Pg 19 #[Ew aS aH aF aL cS cH cF cL aT cT W] V fun e V'=>e=.returned (O J (wE W))/\Below V.heap.size V V':=by
 unfold Ew
 obtain⟨lt,A,hi,tC,hT,wK⟩:=h.parts
 have h:=Qr W.m lt aS aH aF aL cS cH cF cL aT cT V A hT
 have xw:lt.length=W.t.length:=by rw[tC,kN]
 rw[<- tC,xw] at h
 exact h
theorem a6w(iw:wEr W≠0){lo:Nat}{w:Wq}{aS aH aF aL:Option Addr}{cS cH cF cL:Nat}{aT:Option Addr}{cT:Nat}(h:Di lo w (.agg #[Y aS W.m.s.length cS,Y aH W.m.h.length cH,Y aF W.m.f.length cF,Y aL W.m.l.length cL,O J W.m.w,Y aT W.t.length cT]) W) :
  aI Pg 28 #[Ew aS aH aF aL cS cH cF cL aT cT W] w fun e w'=>∃ v,e=.returned (.tuple #[v,O J (wEr W)])/\Below w.heap.size w w':=by
 unfold Ew
 obtain⟨ox,jq⟩:∃ o:Obj,o=.cells #[Y aS W.m.s.length cS,Y aH W.m.h.length cH,Y aF W.m.f.length cF,Y aL W.m.l.length cL,O J W.m.w,Y aT W.t.length cT] 28:=⟨_,rfl⟩
 have b0:Below w.heap.size w (w.alloc ox):=A7 w ox
 have ni:Qi ((w.alloc ox).heap[w.heap.size]?=some ox):=heap_alloc_new w ox
 have lq:Qi (Di lo (w.alloc ox) (.agg #[Y aS W.m.s.length cS,Y aH W.m.h.length cH,Y aF W.m.f.length cF,Y aL W.m.l.length cL,O J W.m.w,Y aT W.t.length cT]) W):=h.below b0
 obtain⟨E,hE⟩:∃ E,E=wEr W:=⟨_,rfl⟩
 have HE:Qi (E=wEr W):=hE
 rw[<- hE]
 subst jq
 have l6:Qi ((w.alloc (.cells #[Y aS W.m.s.length cS,Y aH W.m.h.length cH,Y aF W.m.f.length cF,Y aL W.m.l.length cL,O J W.m.w,Y aT W.t.length cT] 28)).rangeAt w.heap.size 0 [Y aS W.m.s.length cS,Y aH W.m.h.length cH,Y aF W.m.f.length cF,Y aL W.m.l.length cL,O J W.m.w,Y aT W.t.length cT]):=Aq ni.o rfl
 have Hn:Qi (wEr W≠0):=iw
 clear h hE iw
 go_enter func28,ntmps28
 go_wp2_with (refine F8 rfl _ rfl rfl l6.o ?_)
 generalize w.alloc _=W0 at *
 clear l6
 refine(a0s lq.o).mono ?_
 rintro e w1 ⟨rfl,bu⟩
 have ug:Qi (w1.heap[w.heap.size]?=_):=(bu.block _ (fC ni.o)).trans ni.o
 have rW:Qi (Di lo w1 (.agg #[Y aS W.m.s.length cS,Y aH W.m.h.length cH,Y aF W.m.f.length cF,Y aL W.m.l.length cL,O J W.m.w,Y aT W.t.length cT]) W):=lq.o.below bu
 have b1:Below w.heap.size w w1:=b0.trans (bu.mono b0.size)
 clear ni lq bu b0
 by_cases hz:wE W=0
 ·have HC:Qi (E=Gu W.m):=by show _=_;rw[HE.o];unfold wEr;rw[ae (by simpa using hz)]
  rw[hz]
  clear hz
  have l5:Qi (w1.rangeAt w.heap.size 0 [Y aS W.m.s.length cS,Y aH W.m.h.length cH,Y aF W.m.f.length cF,Y aL W.m.l.length cL,O J W.m.w]):=Aq ug.o rfl
  go_wp2_with (refine a4z rfl _ rfl rfl l5.o ?_)
  obtain⟨lt,A1,-,-,-,-⟩:=rW.o.parts
  refine(Yr W.m aS aH aF aL cS cH cF cL w1 A1).mono ?_
  rw[<- HC.o]
  rintro e w2 ⟨ao,bg,rfl,hR,dm⟩
  have b2:Below w.heap.size w w2:=b1.trans (dm.mono b1.size)
  clear hR dm b1 ug rW l5 A1
  go_wp2
  go_ret2
  exact⟨_,rfl,b2⟩
 ·have HC:Qi (E=wE W):=by show _=_;rw[HE.o];unfold wEr;rw[af hz]
  have HzE:Qi (wE W≠0):=hz
  rw[<- HC.o]
  have lh:¬ E=0:=fun h=>hz (HC.o.symm.trans h)
  clear hz ug rW HE HC Hn HzE
  go_wp2
  go_ret2
  exact⟨_,rfl,b1⟩
theorem Xj(iw:wEr W≠0)(ka kb:Int){lo:Nat}{w:Wq}{aS aH aF aL:Option Addr}{cS cH cF cL:Nat}{aT:Option Addr}{cT:Nat}(h:Di lo w (.agg #[Y aS W.m.s.length cS,Y aH W.m.h.length cH,Y aF W.m.f.length cF,Y aL W.m.l.length cL,O J W.m.w,Y aT W.t.length cT]) W) :
  aI Pg 132 #[Ew aS aH aF aL cS cH cF cL aT cT W,.agg #[O J ka,O J kb]] w fun e w'=>e=.returned (.tuple #[.agg #[.bool false,O J 0,O J 0,O J 0,O J 0,O J 0],O J (wEr W)])/\Below w.heap.size w w':=by
 unfold Ew
 obtain⟨ox,jq⟩:∃ o:Obj,o=.cells #[Y aS W.m.s.length cS,Y aH W.m.h.length cH,Y aF W.m.f.length cF,Y aL W.m.l.length cL,O J W.m.w,Y aT W.t.length cT] 28:=⟨_,rfl⟩
 obtain⟨ok,qh⟩:∃ o:Obj,o=.cells #[O J ka,O J kb] 30:=⟨_,rfl⟩
 obtain⟨oz,bi⟩:∃ o:Obj,o=.cells #[.bool false,O J 0,O J 0,O J 0,O J 0,O J 0] 139:=⟨_,rfl⟩
 have mr:Qi (Env w (((w.alloc ox).alloc ok).alloc oz) [(w.heap.size+2,oz),(w.heap.size+1,ok),(w.heap.size,ox)] []):=by
  have h:=(((⟨Below.refl _ _,(fun p hp=>by cases hp),(fun p hp=>by cases hp)⟩:Env w w [] []).alloc ox).alloc ok).alloc oz
  rw[show (w.alloc ox).heap.size=w.heap.size+1 by simp,show ((w.alloc ox).alloc ok).heap.size=w.heap.size+2 by simp] at h
  exact h
 have lq:Qi (Di lo (((w.alloc ox).alloc ok).alloc oz) (.agg #[Y aS W.m.s.length cS,Y aH W.m.h.length cH,Y aF W.m.f.length cF,Y aL W.m.l.length cL,O J W.m.w,Y aT W.t.length cT]) W):=h.below mr.o.bl
 have Hn:Qi (wEr W≠0):=iw
 clear iw h
 have l6:Qi ((((w.alloc (.cells #[Y aS W.m.s.length cS,Y aH W.m.h.length cH,Y aF W.m.f.length cF,Y aL W.m.l.length cL,O J W.m.w,Y aT W.t.length cT] 28)).alloc (.cells #[O J ka,O J kb] 30)).alloc (.cells #[.bool false,O J 0,O J 0,O J 0,O J 0,O J 0] 139)).rangeAt w.heap.size 0 [Y aS W.m.s.length cS,Y aH W.m.h.length cH,Y aF W.m.f.length cF,Y aL W.m.l.length cL,O J W.m.w,Y aT W.t.length cT]):=by
  have h:=mr.o.box (w.heap.size,_) (.tail _ (.tail _ (.head _)))
  rw[jq,qh,bi] at h
  exact Aq h rfl
 go_enter func132,ntmps132
 go_wp2_with (refine F8 rfl _ rfl rfl l6.o ?_)
 rw[<- jq,<- qh,<- bi]
 rw[<- jq,<- qh,<- bi] at l6
 clear l6
 generalize ((w.alloc ox).alloc ok).alloc oz=V0 at *
 refine(a6w Hn.o lq.o).mono ?_
 obtain⟨E,hE⟩:∃ E,E=wEr W:=⟨_,rfl⟩
 rw[<- hE] at Hn ⊢
 have lh:¬ E=0:=Hn.o
 have HEe:Qi (E=wEr W):=hE
 clear hE Hn
 rintro e w2 ⟨v,rfl,dm⟩
 have hZ:=(mr.o.below dm).box (w.heap.size+2,_) (.head _)
 rw[bi] at hZ
 have rJ:Qi (Below w.heap.size w w2):=(mr.o.below dm).bl
 obtain⟨z0,z1,z2,z3,z4,z5,zs⟩:=Bh hZ
 obtain⟨W4,tK⟩:∃ W4,W4=w2.setCells (w.heap.size+1+1) 0 [.bool false,O J 0,O J 0,O J 0,O J 0,O J 0]:=⟨_,rfl⟩
 have t6:Qi (w2.there (w.heap.size+1+1) 0 6):=Be hZ (by simp)
 have MC:W4.heap[w.heap.size+1+1]?=some (.cells #[.bool false,O J 0,O J 0,O J 0,O J 0,O J 0] 139 (0,0)):=by rw[tK];exact Bi hZ rfl
 have b4:Below w.heap.size w W4:=by rw[tK];exact Bd rJ.o (by omega)
 obtain⟨u0,u1,u2,u3,u4,u5,us⟩:=Bh MC
 clear MC z0 z1 z2 z3 z4 z5 zs hZ mr lq dm jq qh bi
 go_wp2_with (refine a6d rfl _ _ rfl rfl rfl t6.o (by kernel_rfl) ?_;rw[<- tK];clear tK t6)
 refine gZ (v:=.tuple #[.agg #[.bool false,O J 0,O J 0,O J 0,O J 0,O J 0],O J E]) (by simp[results,results132,go_sem,u0,u1,u2,u3,u4,u5]) rfl ⟨by rw[HEe.o],b4⟩
end
end Go.Proofs.YthhgoenomehobaaGreat.mm
