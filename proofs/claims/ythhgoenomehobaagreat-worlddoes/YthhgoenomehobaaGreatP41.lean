/- Parts. -/
import Derived.Test.YthhgoenomehobaaGreatP36
import Derived.Test.YthhgoenomehobaaGreatP15
import Derived.Test.YthhgoenomehobaaGreatP19
import Derived.Test.YthhgoenomehobaaGreatP18
namespace Go.Proofs.YthhgoenomehobaaGreat.mm
set_option maxRecDepth 100000
set_option linter.unusedVariables false
open Go.Value renaming int → O, slice → Y
open Go.IntKind renaming i64 → J
open Go.Proofs.Tryz renaming prog → Pg
open Go renaming World → Wq
open Go.ChangeShapes Go.WideShapes Go.ChangeAt Go.RowKit Go.Joins Go.Deep
set_option maxHeartbeats 3200000
section
open Go.Maps
theorem D8.parts{lo:Nat}{V:Wq}{W:Wd}{aS aH aF aL:Option Addr}{cS cH cF cL:Nat}{aT:Option Addr}{cT:Nat}(h:D8 lo V (.agg #[Y aS W.m.slots.length cS,Y aH W.m.heads.length cH,Y aF W.m.free.length cF,Y aL W.m.locks.length cL,O J W.m.now,Y aT W.ts.length cT]) W):∃ lt,At V aS aH aF aL cS cH cF cL W.m/\Hi4 lo aS aH aF aL/\W.ts=lt.map (·.1)/\Ef V aT cT lt/\THi lo aT lt:=by
 obtain⟨bS,bH,bF,bL,dS,dH,dF,dL,bT,dT,lt,e,A,hi,hts,hT,hTh⟩:=h
 have e1:=Value.agg.inj e
 simp only[Array.mk.injEq,List.cons.injEq,Value.slice.injEq,true_and,and_true] at e1
 obtain⟨⟨rfl,rfl⟩,⟨rfl,rfl⟩,⟨rfl,rfl⟩,⟨rfl,rfl⟩,rfl,rfl⟩:=e1
 exact⟨lt,A,hi,hts,hT,hTh⟩
theorem a2y{W:Wd}(hE:wE W=0){lo:Nat}{V:Wq}{aS aH aF aL:Option Addr}{cS cH cF cL:Nat}{aT:Option Addr}{cT:Nat}(h:D8 lo V (.agg #[Y aS W.m.slots.length cS,Y aH W.m.heads.length cH,Y aF W.m.free.length cF,Y aL W.m.locks.length cL,O J W.m.now,Y aT W.ts.length cT]) W) :
  Calls Pg 19 #[.agg #[Y aS W.m.slots.length cS,Y aH W.m.heads.length cH,Y aF W.m.free.length cF,Y aL W.m.locks.length cL,O J W.m.now,Y aT W.ts.length cT]] V fun e V'=>e=.returned (O J 0)/\Below V.heap.size V V':=by
 obtain⟨lt,A,hi,hts,hT,hTh⟩:=h.parts
 have h:=Ph W.m lt aS aH aF aL cS cH cF cL aT cT V A hT
 have hts':lt.length=W.ts.length:=by rw[hts,List.length_map]
 rw[<- hts,hts',show wE ⟨W.m,W.ts⟩=0 from hE] at h
 exact h
theorem b0y{W:Wd}(hE:wE W=0)(hC:Kq W.m=0){lo:Nat}{w:Wq}{aS aH aF aL:Option Addr}{cS cH cF cL:Nat}{aT:Option Addr}{cT:Nat}(h:D8 lo w (.agg #[Y aS W.m.slots.length cS,Y aH W.m.heads.length cH,Y aF W.m.free.length cF,Y aL W.m.locks.length cL,O J W.m.now,Y aT W.ts.length cT]) W) :
  Calls Pg 28 #[.agg #[Y aS W.m.slots.length cS,Y aH W.m.heads.length cH,Y aF W.m.free.length cF,Y aL W.m.locks.length cL,O J W.m.now,Y aT W.ts.length cT]] w fun e w'=>∃ ao cap,e=.returned (.tuple #[Y ao (Gm W.m).length cap,O J 0])/\w'.ownsRow w.heap.size 61 4 (Y ao (Gm W.m).length cap) (Gm W.m).length (Kv (Gm W.m))/\Below w.heap.size w w':=by
 obtain⟨ox,hox⟩:∃ o:Obj,o=.cells #[Y aS W.m.slots.length cS,Y aH W.m.heads.length cH,Y aF W.m.free.length cF,Y aL W.m.locks.length cL,O J W.m.now,Y aT W.ts.length cT] 28:=⟨_,rfl⟩
 have b0:Below w.heap.size w (w.alloc ox):=A7 w ox
 have HX0:Hid ((w.alloc ox).heap[w.heap.size]?=some ox):=heap_alloc_new w ox
 have HV0:Hid (D8 lo (w.alloc ox) (.agg #[Y aS W.m.slots.length cS,Y aH W.m.heads.length cH,Y aF W.m.free.length cF,Y aL W.m.locks.length cL,O J W.m.now,Y aT W.ts.length cT]) W):=h.below b0
 have HI:Hid (wE W=0):=hE
 have HCh:Hid (Kq W.m=0):=hC
 obtain⟨L,hL⟩:∃ L,L=Gm W.m:=⟨_,rfl⟩
 have HL:Hid (L=Gm W.m):=hL
 rw[<- hL]
 subst hox
 have l6:Hid ((w.alloc (.cells #[Y aS W.m.slots.length cS,Y aH W.m.heads.length cH,Y aF W.m.free.length cF,Y aL W.m.locks.length cL,O J W.m.now,Y aT W.ts.length cT] 28)).rangeAt w.heap.size 0 [Y aS W.m.slots.length cS,Y aH W.m.heads.length cH,Y aF W.m.free.length cF,Y aL W.m.locks.length cL,O J W.m.now,Y aT W.ts.length cT]):=Au HX0.out rfl
 clear h hE hC hL
 go_enter Tryz.func28,Tryz.ntmps28
 go_wp2_with (refine Ha rfl _ rfl rfl l6.out ?_)
 generalize w.alloc _=W0 at *
 clear l6
 refine(a2y HI.out HV0.out).mono ?_
 rintro e w1 ⟨rfl,hb1⟩
 have HX1:Hid (w1.heap[w.heap.size]?=_):=(hb1.block _ (lt_of_block HX0.out)).trans HX0.out
 have HV1:Hid (D8 lo w1 (.agg #[Y aS W.m.slots.length cS,Y aH W.m.heads.length cH,Y aF W.m.free.length cF,Y aL W.m.locks.length cL,O J W.m.now,Y aT W.ts.length cT]) W):=HV0.out.below hb1
 have b1:Below w.heap.size w w1:=b0.trans (hb1.mono b0.size)
 clear HX0 HV0 hb1 b0
 have l5:Hid (w1.rangeAt w.heap.size 0 [Y aS W.m.slots.length cS,Y aH W.m.heads.length cH,Y aF W.m.free.length cF,Y aL W.m.locks.length cL,O J W.m.now]):=Au HX1.out rfl
 go_wp2_with (refine b2o rfl _ rfl rfl l5.out ?_)
 obtain⟨lt,A1,-,-,-,-⟩:=HV1.out.parts
 refine(a4k W.m aS aH aF aL cS cH cF cL w1 A1).mono ?_
 rw[HCh.out,<- HL.out]
 rintro e w2 ⟨ao,cap,rfl,hR,hb2⟩
 have HR:Hid (w2.ownsRow w.heap.size 61 4 (Y ao L.length cap) L.length (Kv L)):=ownsRow_le hR b1.size
 have b2:Below w.heap.size w w2:=b1.trans (hb2.mono b1.size)
 clear hR hb2 b1 HX1 HV1 l5 A1
 go_wp2
 go_ret2
 exact⟨ao,cap,rfl,HR.out,b2⟩
end
section
theorem a4a:Pg.cellsOf 34=9:=by kernel_rfl
variable {H:Type} {enc:TypeId × Value->H} {w:Wq}
theorem trod_struct4{P:Program}{base:Nat}{spare:Nat->Bool}{held:Bool}{t:TypeId}{f0 f1 f2 f3:Field}{fuel:Nat}{cs:List Value}{x:DataW H × List MemPlace}(ht:P.underlying t=some (.struct #[f0,f1,f2,f3]))(h:DataW.trod enc P w base spare held fuel t cs=some x) :
  ∃ y0 y1 y2 y3 n,x.1=.agg [y0.1,y1.1,y2.1,y3.1]/\cs.length=P.cellsOf t/\DataW.trod enc P w base spare held n f0.type ((cs.drop f0.offset).take (P.cellsOf f0.type))=some y0 /\
   DataW.trod enc P w base spare held n f1.type ((cs.drop f1.offset).take (P.cellsOf f1.type))=some y1/\DataW.trod enc P w base spare held n f2.type ((cs.drop f2.offset).take (P.cellsOf f2.type))=some y2 /\
   DataW.trod enc P w base spare held n f3.type ((cs.drop f3.offset).take (P.cellsOf f3.type))=some y3:=by
 obtain⟨xs,n,_,rfl,hl,hlen,hf⟩:=DataW.trod_struct ht h
 match xs,hlen with
 | [y0,y1,y2,y3],_=>exact⟨y0,y1,y2,y3,n,by simp,hl,by simpa using hf 0 f0 rfl,by simpa using hf 1 f1 rfl,by simpa using hf 2 f2 rfl,by simpa using hf 3 f3 rfl⟩
theorem nine{cs:List Value}(h:cs.length=9):∃ c0 c1 c2 c3 c4 c5 c6 c7 c8,cs=[c0,c1,c2,c3,c4,c5,c6,c7,c8]:=by
 match cs,h with
 | [c0,c1,c2,c3,c4,c5,c6,c7,c8],_=>exact⟨_,_,_,_,_,_,_,_,_,rfl⟩
theorem a5g{fuel:Nat}{cs:List Value}{x:DataW H × List MemPlace}(h:DataW.trod enc Pg w 0 (fun _=>true) true fuel 34 cs=some x):∃ p:Pk,cs=[.int .i64 p.task,.bool p.step,.bool p.tick,.int .i64 p.c.kind,.int .i64 p.c.a,.int .i64 p.c.b,.int .i64 p.c.time,.int .i64 p.c.bk,.int .i64 p.c.slot]:=by
 obtain⟨y0,y1,y2,y3,n,_,hl,h0,h1,h2,h3⟩:=trod_struct4 Tryz.underlying34 h
 rw[a4a] at hl
 obtain⟨c0,c1,c2,c3,c4,c5,c6,c7,c8,rfl⟩:=nine hl
 simp only[Ro,cells3,cells4] at h0 h1 h2 h3
 obtain⟨a,e0,_⟩:=DataW.trod_int Tryz.underlying3 h0
 obtain⟨s,e1,_⟩:=DataW.trod_bool Tryz.underlying4 h1
 obtain⟨t,e2,_⟩:=DataW.trod_bool Tryz.underlying4 h2
 obtain⟨c,ec⟩:=Xt h3
 simp at e0 e1 e2 ec
 obtain⟨rfl,rfl,rfl,rfl,rfl,rfl⟩:=ec
 subst e0 e1 e2
 exact⟨⟨a,s,t,c⟩,rfl⟩
end
section
def b3c:Prop:=∀ w:Wq,Calls Pg 18 #[] w fun e w'=>e=.returned (.bool true)/\Below w.heap.size w w'
end
section
theorem Xa:Pg.cellsOf 49=16:=by kernel_rfl
theorem a0q:Pg.cellsOf 26=1:=by kernel_rfl
theorem a0r:Pg.cellsOf 28=6:=by kernel_rfl
theorem a3y:Pg.bytesOf 49=160:=by kernel_rfl
variable {H:Type} {enc:TypeId × Value->H} {w:Wq}
theorem trod_struct3{P:Program}{base:Nat}{spare:Nat->Bool}{held:Bool}{t:TypeId}{f0 f1 f2:Field}{fuel:Nat}{cs:List Value}{x:DataW H × List MemPlace}(ht:P.underlying t=some (.struct #[f0,f1,f2]))(h:DataW.trod enc P w base spare held fuel t cs=some x) :
  ∃ y0 y1 y2 n,x.1=.agg [y0.1,y1.1,y2.1]/\cs.length=P.cellsOf t/\DataW.trod enc P w base spare held n f0.type ((cs.drop f0.offset).take (P.cellsOf f0.type))=some y0 /\
   DataW.trod enc P w base spare held n f1.type ((cs.drop f1.offset).take (P.cellsOf f1.type))=some y1/\DataW.trod enc P w base spare held n f2.type ((cs.drop f2.offset).take (P.cellsOf f2.type))=some y2:=by
 obtain⟨xs,n,_,rfl,hl,hlen,hf⟩:=DataW.trod_struct ht h
 match xs,hlen with
 | [y0,y1,y2],_=>exact⟨y0,y1,y2,n,by simp,hl,by simpa using hf 0 f0 rfl,by simpa using hf 1 f1 rfl,by simpa using hf 2 f2 rfl⟩
theorem a5f{fuel:Nat}{c0 c1 c2 c3 c4:Value}{x:DataW H × List MemPlace}(hf:DataW.trod enc Pg w 0 (fun _=>true) true fuel 25 [c0,c1,c2,c3,c4]=some x)(hz:∀ n∈x.1.weights Pg 25,n<=reachBytes):∃ M,Ans 0 w (.agg #[c0,c1,c2,c3,c4]) M:=by
 obtain⟨y0,y1,y2,y3,y4,n,hx,_,h0,h1,h2,h3,h4⟩:=N8 Tryz.underlying25 hf
 simp only[cells27,cells24,cells3] at h0 h1 h2 h3 h4
 obtain⟨d,pl⟩:=x
 have hd:d=.agg [y0.1,y1.1,y2.1,y3.1,y4.1]:=hx
 subst hd
 have hz':∀ n,n∈y0.1.weights Pg 22\/n∈y1.1.weights Pg 23\/n∈y2.1.weights Pg 23\/n∈y3.1.weights Pg 23->n<=reachBytes:=fun n hn=>hz n (by
  simp only[DataW.weights,Tryz.underlying25,DataW.weightsEach,List.map_cons,List.mem_append]
  rcases hn with h|h|h|h
  ·exact .inl h
  ·exact .inr (.inl h)
  ·exact .inr (.inr (.inl h))
  ·exact .inr (.inr (.inr (.inl h))))
 obtain⟨S,aS,cS,rfl,rS⟩:=a5i h0 (fun n hn=>hz' n (.inl hn))
 obtain⟨H,aH,cH,rfl,rH⟩:=Om h1 (fun n hn=>hz' n (.inr (.inl hn)))
 obtain⟨F,aF,cF,rfl,rF⟩:=Om h2 (fun n hn=>hz' n (.inr (.inr (.inl hn))))
 obtain⟨L,aL,cL,rfl,rL⟩:=Om h3 (fun n hn=>hz' n (.inr (.inr (.inr hn))))
 obtain⟨now,e,_⟩:=DataW.trod_int Tryz.underlying3 h4
 simp at e
 subst e
 exact⟨⟨S,H,F,L,now⟩,aS,aH,aF,aL,cS,cH,cF,cL,rfl,⟨rS,rH,rF,rL⟩,⟨fun _ _=>Nat.zero_le _,fun _ _=>Nat.zero_le _,fun _ _=>Nat.zero_le _,fun _ _=>Nat.zero_le _⟩⟩
theorem Zm{fuel:Nat}{cs:List Value}{x:DataW H × List MemPlace}(hf:DataW.trod enc Pg w 0 (fun _=>true) true fuel 47 cs=some x)(hz:∀ n∈x.1.weights Pg 47,n<=reachBytes) :
  ∃ (f:Fr) (aK:Option Addr) (cK:Nat),cs=f.enc aK cK/\Am w aK cK f.keys:=by
 obtain⟨y0,y1,y2,y3,y4,y5,y6,y7,y8,n,hx,hl,h0,h1,h2,h3,h4,h5,h6,h7,h8⟩:=Yh Tryz.underlying47 hf
 rw[Uo] at hl
 obtain⟨c0,c1,c2,c3,c4,c5,c6,c7,c8,c9,c10,c11,c12,c13,rfl⟩:=fourteen hl
 simp only[Ro,cells3,cells4,a6z,a3z] at h0 h1 h2 h3 h4 h5 h6 h7 h8
 obtain⟨d,pl⟩:=x
 have hd:d=.agg [y0.1,y1.1,y2.1,y3.1,y4.1,y5.1,y6.1,y7.1,y8.1]:=hx
 subst hd
 have hz':∀ n,n∈y6.1.weights Pg 45->n<=reachBytes:=fun n hn=>hz n (by
  simp only[DataW.weights,Tryz.underlying47,DataW.weightsEach,List.map_cons,List.mem_append]
  exact .inr (.inr (.inr (.inr (.inr (.inr (.inl hn)))))))
 obtain⟨c,ec⟩:=Xt h0
 obtain⟨pl,e1,_⟩:=DataW.trod_int Tryz.underlying3 h1
 obtain⟨cur,e2,_⟩:=DataW.trod_int Tryz.underlying3 h2
 obtain⟨prev,e3,_⟩:=DataW.trod_int Tryz.underlying3 h3
 obtain⟨slot,e4,_⟩:=DataW.trod_int Tryz.underlying3 h4
 obtain⟨nn,e5,_⟩:=DataW.trod_int Tryz.underlying3 h5
 obtain⟨K,aK,cK,e6,rK⟩:=a5e h6 hz'
 obtain⟨dn,e7,_⟩:=DataW.trod_bool Tryz.underlying4 h7
 obtain⟨ee,e8,_⟩:=DataW.trod_int Tryz.underlying36 h8
 simp at ec e1 e2 e3 e4 e5 e7 e8
 obtain⟨rfl,rfl,rfl,rfl,rfl,rfl⟩:=ec
 subst e1 e2 e3 e4 e5 e6 e7 e8
 exact⟨⟨c,pl,cur,prev,slot,nn,K,dn,ee⟩,aK,cK,rfl,rK⟩
theorem a5j{fuel:Nat}{cs:List Value}{x:DataW H × List MemPlace}(hf:DataW.trod enc Pg w 0 (fun _=>true) true fuel 49 cs=some x)(hz:∀ n∈x.1.weights Pg 49,n<=reachBytes) :
  ∃ p:Tk × TkV,cs=p.1.enc p.2/\Am w p.2.aK p.2.cK p.1.f.keys/\Cj w p.2.aH p.2.cH p.1.held:=by
 obtain⟨y0,y1,y2,n,hx,hl,h0,h1,h2⟩:=trod_struct3 Tryz.underlying49 hf
 rw[Xa] at hl
 obtain⟨d,pl⟩:=x
 have hd:d=.agg [y0.1,y1.1,y2.1]:=hx
 subst hd
 have hz':∀ n,n∈y1.1.weights Pg 47\/n∈y2.1.weights Pg 23->n<=reachBytes:=fun n hn=>hz n (by
  simp only[DataW.weights,Tryz.underlying49,DataW.weightsEach,List.map_cons,List.mem_append]
  rcases hn with h|h
  ·exact .inr (.inl h)
  ·exact .inr (.inr (.inl h)))
 simp only[cells4,Uo,cells24] at h0 h1 h2
 match cs,hl with
 | [c0,c1,c2,c3,c4,c5,c6,c7,c8,c9,c10,c11,c12,c13,c14,c15],_ =>
  obtain⟨b,e0,_⟩:=DataW.trod_bool Tryz.underlying4 h0
  obtain⟨f,aK,cK,e1,rK⟩:=Zm h1 (fun n hn=>hz' n (.inl hn))
  obtain⟨hd,aH,cH,e2,rH⟩:=Om h2 (fun n hn=>hz' n (.inr hn))
  refine⟨(⟨b,f,hd⟩,⟨aK,cK,aH,cH⟩),?_,rK,rH⟩
  simp only[List.drop,List.take] at e0 e1
  simp only[List.cons.injEq,and_true] at e0
  show _=Value.bool b :: (f.enc aK cK ++ [.slice aH hd.length cH])
  rw[<- e1,<- e0,<- e2]
  rfl
theorem weightsAll_mem{P:Program}{e:TypeId}:∀ {a:List (DataW H)} {d:DataW H},d∈a->∀ {n:Nat},n∈d.weights P e->n∈DataW.weightsAll P e a
 | x :: a,d,h,n,hn=>by
  unfold DataW.weightsAll
  rcases List.mem_cons.1 h with rfl|h
  ·exact List.mem_append_left _ hn
  ·exact List.mem_append_right _ (weightsAll_mem h hn)
theorem X3{P:Program}{t e:TypeId}(ht:P.underlying t=some (.slice e)){a b:List (DataW H)}{d:DataW H}(hd:d∈a){n:Nat}(hn:n∈d.weights P e):n∈(DataW.slice a b).weights P t:=by
 simp only[DataW.weights,ht]
 have:=weightsAll_mem hd hn
 simp[this]
theorem a5k{fuel:Nat}{c:Value}{x:DataW H × List MemPlace}(h:DataW.trod enc Pg w 0 (fun _=>true) true fuel 26 [c]=some x)(hz:∀ n∈x.1.weights Pg 26,n<=reachBytes) :
  ∃ l ao cap,c=.slice ao l.length cap/\Ef w ao cap l:=by
 rcases open_slice Tryz.underlying26 h with ⟨e,-⟩|⟨a,len,cap,m,n,D,Pl,e,hb,hl,hm,hmm,hx,hc⟩
 ·simp at e
  exact⟨[],none,0,e,a0e w⟩
 ·simp at e hmm
  subst e hmm
  rw[Xa] at hc
  rw[hx] at hz
  obtain⟨S,hS⟩:=@choose_lt (Tk × TkV) ⟨(⟨false,⟨⟨0,0,0,0,0,0⟩,0,0,0,0,0,[],false,0⟩,[]⟩,⟨none,0,none,0⟩)⟩ len (fun i s=>w.cells? 0 (a.add (i*16)) 16=some (s.1.enc s.2)/\Am w s.2.aK s.2.cK s.1.f.keys/\Cj w s.2.aH s.2.cH s.1.held) (fun i hi=>by
   obtain⟨cs',h1,h2⟩:=hc i (by omega)
   obtain⟨s,rfl,r1,r2⟩:=a5j h2 (fun n hn=>hz n (X3 Tryz.underlying26 (List.mem_map.2 ⟨i,List.mem_range.2 hi,rfl⟩) hn))
   exact⟨s,h1,r1,r2⟩)
  have hlt:((List.range len).map S).length=len:=by simp
  refine⟨(List.range len).map S,some a,m,by rw[hlt],by omega,?_,(fun h=>by cases h),?_,fun p hp=>?_,fun p hp=>?_⟩
  ·have:=hz ((len+(m - len))*160) (by simp[DataW.weights,Tryz.underlying26,a3y])
   unfold reachBytes at this
   rw[hlt]
   omega
  ·by_cases h0:len=0
   ·left;omega
   ·right
    obtain⟨b,off,spot⟩:=a
    have hspot:spot=none:=by
     have:=(World.cells?_some (hS 0 (by omega)).1).2.2 0 (by omega)
     obtain⟨v,hv⟩:=Qp (S 0).1 (S 0).2 (q:=0) (by omega)
     rw[hv] at this
     simpa [Addr.add] using World.cell?_spot this
    subst hspot
    refine⟨b,off,rfl,fun i hi q hq=>?_⟩
    have hi':i<len:=by simpa using hi
    have e:((List.range len).map S)[i]=S i:=by simp
    rw[e]
    have:=(World.cells?_some (hS i hi').1).2.2 q hq
    rwa [Addr.add_lit,Addr.add_lit] at this
  ·obtain⟨i,hi,rfl⟩:=List.mem_map.1 hp
   exact(hS i (List.mem_range.1 hi)).2.1
  ·obtain⟨i,hi,rfl⟩:=List.mem_map.1 hp
   exact(hS i (List.mem_range.1 hi)).2.2
theorem b3q{r:Reach}{b0:Nat}{v:Value}{d:DataW H}{p:List MemPlace}(hv:Value.okWide Pg w r b0 28 v)(h:DataW.Trod enc Pg w 0 (fun _=>true) true 28 v d p)(hz:∀ n∈d.weights Pg 28,n<=reachBytes) :
  ∃ (M:Mm) (l:List (Tk × TkV)) (aS aH aF aL:Option Addr) (cS cH cF cL:Nat) (aT:Option Addr) (cT:Nat),v=.agg #[.slice aS M.slots.length cS,.slice aH M.heads.length cH,.slice aF M.free.length cF,.slice aL M.locks.length cL,.int .i64 M.now,.slice aT l.length cT]/\At w aS aH aF aL cS cH cF cL M/\Ef w aT cT l:=by
 obtain⟨cs,rfl,hsz⟩:=okWide_struct Tryz.underlying28 hv
 obtain⟨l⟩:=cs
 rw[a0r] at hsz
 obtain⟨c0,c1,c2,c3,c4,c5,rfl⟩:=six hsz
 obtain⟨fuel,hf⟩:=h
 obtain⟨z0,z1,m,hx,_,k0,k1⟩:=trod_struct2 Tryz.underlying28 hf
 simp only[Value.cells,cells29,a0q] at k0 k1
 have hd:d=.agg [z0.1,z1.1]:=congrArg Prod.fst hx
 subst hd
 have hz':∀ n,n∈z0.1.weights Pg 25\/n∈z1.1.weights Pg 26->n<=reachBytes:=fun n hn=>hz n (by
  simp only[DataW.weights,Tryz.underlying28,DataW.weightsEach,List.map_cons,List.mem_append]
  rcases hn with h|h
  ·exact .inl h
  ·exact .inr (.inl h))
 obtain⟨M,aS,aH,aF,aL,cS,cH,cF,cL,e,A,-⟩:=a5f (c0:=c0) (c1:=c1) (c2:=c2) (c3:=c3) (c4:=c4) k0 (fun n hn=>hz' n (.inl hn))
 obtain⟨l,aT,cT,e5,r⟩:=a5k (c:=c5) k1 (fun n hn=>hz' n (.inr hn))
 injection e with e
 simp only[Array.mk.injEq,List.cons.injEq,and_true] at e
 obtain⟨rfl,rfl,rfl,rfl,rfl⟩:=e
 subst e5
 exact⟨M,l,aS,aH,aF,aL,cS,cH,cF,cL,aT,cT,rfl,A,r⟩
theorem b3p{r:Reach}{b0:Nat}{v:Value}{d:DataW H}{p:List MemPlace}(hv:Value.okWide Pg w r b0 34 v)(h:DataW.Trod enc Pg w 0 (fun _=>true) true 34 v d p) :
  ∃ x:Pk,v=.agg #[.int .i64 x.task,.bool x.step,.bool x.tick,.int .i64 x.c.kind,.int .i64 x.c.a,.int .i64 x.c.b,.int .i64 x.c.time,.int .i64 x.c.bk,.int .i64 x.c.slot]:=by
 obtain⟨cs,rfl,hsz⟩:=okWide_struct Tryz.underlying34 hv
 obtain⟨fuel,hf⟩:=h
 obtain⟨x,hx⟩:=a5g hf
 refine⟨x,?_⟩
 obtain⟨l⟩:=cs
 have hx':l=_:=hx
 rw[hx']
theorem world_ans{M:Mm}{l:List (Tk × TkV)}{aS aH aF aL:Option Addr}{cS cH cF cL:Nat}{aT:Option Addr}{cT:Nat}(A:At w aS aH aF aL cS cH cF cL M)(r:Ef w aT cT l):D8 0 w (.agg #[.slice aS M.slots.length cS,.slice aH M.heads.length cH,.slice aF M.free.length cF,.slice aL M.locks.length cL,.int .i64 M.now,.slice aT (l.map (·.1)).length cT]) ⟨M,l.map (·.1)⟩ :=
 ⟨aS,aH,aF,aL,cS,cH,cF,cL,aT,cT,l,rfl,A,⟨fun _ _=>Nat.zero_le _,fun _ _=>Nat.zero_le _,fun _ _=>Nat.zero_le _,fun _ _=>Nat.zero_le _⟩,rfl,r,⟨fun _ _=>Nat.zero_le _,fun _ _ _ _=>Nat.zero_le _,fun _ _ _ _=>Nat.zero_le _⟩⟩
end
section
theorem a1y(t:Tk)(p q:TkV)(w:Wq)(k1:Am w p.aK p.cK t.f.keys)(k2:Am w q.aK q.cK t.f.keys)(h1:Cj w p.aH p.cH t.held)(h2:Cj w q.aH q.cH t.held) :
  Calls Pg 66 #[.agg #[.bool t.busy,O J t.f.c.kind,O J t.f.c.a,O J t.f.c.b,O J t.f.c.time,O J t.f.c.bk,O J t.f.c.slot,O J t.f.pl,O J t.f.cur,O J t.f.prev,O J t.f.slot,O J t.f.n,Y p.aK t.f.keys.length p.cK,.bool t.f.done,O J t.f.e,Y p.aH t.held.length p.cH],.agg #[.bool t.busy,O J t.f.c.kind,O J t.f.c.a,O J t.f.c.b,O J t.f.c.time,O J t.f.c.bk,O J t.f.c.slot,O J t.f.pl,O J t.f.cur,O J t.f.prev,O J t.f.slot,O J t.f.n,Y q.aK t.f.keys.length q.cK,.bool t.f.done,O J t.f.e,Y q.aH t.held.length q.cH]] w fun e w'=>e=.returned (.bool true)/\Below w.heap.size w w':=by
 obtain⟨ot,hot⟩:∃ o:Obj,o=.cells #[.bool t.busy,O J t.f.c.kind,O J t.f.c.a,O J t.f.c.b,O J t.f.c.time,O J t.f.c.bk,O J t.f.c.slot,O J t.f.pl,O J t.f.cur,O J t.f.prev,O J t.f.slot,O J t.f.n,Y p.aK t.f.keys.length p.cK,.bool t.f.done,O J t.f.e,Y p.aH t.held.length p.cH] 49:=⟨_,rfl⟩
 obtain⟨ou,hou⟩:∃ o:Obj,o=.cells #[.bool t.busy,O J t.f.c.kind,O J t.f.c.a,O J t.f.c.b,O J t.f.c.time,O J t.f.c.bk,O J t.f.c.slot,O J t.f.pl,O J t.f.cur,O J t.f.prev,O J t.f.slot,O J t.f.n,Y q.aK t.f.keys.length q.cK,.bool t.f.done,O J t.f.e,Y q.aH t.held.length q.cH] 49:=⟨_,rfl⟩
 have hb2:Below w.heap.size w ((w.alloc ot).alloc ou):=below_alloc2 _ _ _
 have HT2:Hid (((w.alloc ot).alloc ou).heap[w.heap.size]?=some ot):=by show _=_;rw[Below.heap_alloc _ _ _ (by simp),heap_alloc_new]
 have HU2:Hid (((w.alloc ot).alloc ou).heap[w.heap.size+1]?=some ou):=by
  have:=heap_alloc_new (w.alloc ot) ou
  rwa [show (w.alloc ot).heap.size=w.heap.size+1 by simp] at this
 have Hb2:Hid (Below w.heap.size w ((w.alloc ot).alloc ou)):=hb2
 have HSf:Hid (∀ V,Below w.heap.size w V->Calls Pg 23 #[.agg #[O J t.f.c.kind,O J t.f.c.a,O J t.f.c.b,O J t.f.c.time,O J t.f.c.bk,O J t.f.c.slot,O J t.f.pl,O J t.f.cur,O J t.f.prev,O J t.f.slot,O J t.f.n,Y p.aK t.f.keys.length p.cK,.bool t.f.done,O J t.f.e],.agg #[O J t.f.c.kind,O J t.f.c.a,O J t.f.c.b,O J t.f.c.time,O J t.f.c.bk,O J t.f.c.slot,O J t.f.pl,O J t.f.cur,O J t.f.prev,O J t.f.slot,O J t.f.n,Y q.aK t.f.keys.length q.cK,.bool t.f.done,O J t.f.e]] V fun e w'=>e=.returned (.bool true)/\Below V.heap.size V w'):=fun V hb=>Zr t.f _ _ _ _ V (k1.below hb) (k2.below hb)
 have HSi:Hid (∀ V,Below w.heap.size w V->Calls Pg 24 #[Y p.aH t.held.length p.cH,Y q.aH t.held.length q.cH] V fun e w'=>e=.returned (.bool true)/\Below V.heap.size V w'):=fun V hb=>by
  have h:=Lh p.aH q.aH p.cH q.cH t.held t.held V (h1.below hb) (h2.below hb)
  rw[show eqI t.held t.held=true from (a3a _ _).2 rfl] at h
  exact h
 clear k1 k2 h1 h2 hb2
 go_enter Tryz.func66,Tryz.ntmps66
 go_wp2_with fail
 rw[<- hot,<- hou]
 generalize (w.alloc ot).alloc ou=W2 at *
 subst hot hou
 refine(HSf.out W2 Hb2.out).mono ?_
 rintro e w7 ⟨rfl,hb7⟩
 have HT7:=(hb7.block _ (lt_of_block HT2.out)).trans HT2.out
 have HU7:=(hb7.block _ (lt_of_block HU2.out)).trans HU2.out
 have Hb7:Hid (Below w.heap.size w w7):=Hb2.out.trans (hb7.mono Hb2.out.size)
 have t15:w7.cell? ⟨w.heap.size,15,none⟩=some (Y p.aH t.held.length p.cH):=by rw[cell_of_block HT7];rfl
 have u15:w7.cell? ⟨w.heap.size+1,15,none⟩=some (Y q.aH t.held.length q.cH):=by rw[cell_of_block HU7];rfl
 clear HT7 HU7 HT2 HU2 hb7 HSf
 go_wp2_with fail
 refine(HSi.out w7 Hb7.out).mono ?_
 rintro e w8 ⟨rfl,hb8⟩
 have Hb8:Hid (Below w.heap.size w w8):=Hb7.out.trans (hb8.mono Hb7.out.size)
 clear t15 u15 hb8 HSi
 go_wp2
 go_ret
 exact⟨rfl,Hb8.out⟩
theorem fn66:∀ args W,(callFunc 66 args).run Pg W=.ok (.enter 66 args) W:=fun _ _=>by kernel_rfl
theorem Z5(l1 l2:List (Tk × TkV))(a1 a2:Option Addr)(c1 c2:Nat)(w:Wq)(r1:Ef w a1 c1 l1)(r2:Ef w a2 c2 l2)(he:l1.map (·.1)=l2.map (·.1)) :
  Calls Pg 65 #[Y a1 l1.length c1,Y a2 l2.length c2,.func (.func 66) #[] #[]] w fun e w'=>e=.returned (.bool true)/\Below w.heap.size w w':=by
 have m1:=r1.max;have m2:=r2.max
 have hl:l1.length=l2.length:=by simpa using congrArg List.length he
 have HR1:Hid (Ef w a1 c1 l1):=r1
 have HR2:Hid (Ef w a2 c2 l2):=r2
 have HE:Hid (l1.map (·.1)=l2.map (·.1)):=he
 have hne:((l1.length:Int) != (l2.length:Int))=false:=by rw[hl];simp
 have Hl:Hid (l1.length=l2.length):=hl
 have HF:Hid (∀ args W,(callFunc 66 args).run Pg W=.ok (.enter 66 args) W):=fn66
 clear r1 r2 he hl
 go_enter Tryz.func65,Tryz.ntmps65
 go_wp2
 go_loopw [17] (fun i wr=>∃ k:Nat,k<=l1.length/\i=O J k/\Hid (Below w.heap.size w wr)) (fun i _=>l1.length - (intOf i).toNat)
 case atStart=>exact⟨0,Nat.zero_le _,rfl,Below.refl _ _⟩
 case round =>
  obtain⟨k,hk,rfl,Hb⟩:=hrel
  by_cases hlt:k<l1.length
  ·have hlt2:k<l2.length:=by rw[<- Hl.out];exact hlt
   have hlt2':(k:Int)<(l2.length:Int):=by omega
   obtain⟨b1,o1,rfl⟩:=HR1.out.addr (by omega)
   obtain⟨b2,o2,rfl⟩:=HR2.out.addr (by omega)
   have HA1:=HR1.out.below Hb.out
   have HA2:=HR2.out.below Hb.out
   have g1:=HA1.range hlt;have g2:=HA2.range hlt2
   have k1:=HA1.keys _ (List.getElem_mem hlt);have k2:=HA2.keys _ (List.getElem_mem hlt2)
   have i1:=HA1.held _ (List.getElem_mem hlt);have i2:=HA2.held _ (List.getElem_mem hlt2)
   have hb1:b1<wr.heap.size:=cell_lt (HA1.cells hlt).1
   have hb2:b2<wr.heap.size:=cell_lt (HA2.cells hlt2).1
   have e12:l1[k].1=l2[k].1:=by
    have:=congrArg (fun l=>l[k]?) HE.out
    simpa [hlt,hlt2] using this
   clear HA1 HA2
   generalize l1[k]=x at *
   generalize l2[k]=y at *
   obtain⟨t,p⟩:=x
   obtain⟨t',q⟩:=y
   dsimp only at e12 k1 k2 i1 i2 g1 g2
   subst e12
   obtain⟨ot,hot⟩:∃ o:Obj,o=.cells #[.bool t.busy,O J t.f.c.kind,O J t.f.c.a,O J t.f.c.b,O J t.f.c.time,O J t.f.c.bk,O J t.f.c.slot,O J t.f.pl,O J t.f.cur,O J t.f.prev,O J t.f.slot,O J t.f.n,Y p.aK t.f.keys.length p.cK,.bool t.f.done,O J t.f.e,Y p.aH t.held.length p.cH] 49:=⟨_,rfl⟩
   obtain⟨ou,hou⟩:∃ o:Obj,o=.cells #[.bool t.busy,O J t.f.c.kind,O J t.f.c.a,O J t.f.c.b,O J t.f.c.time,O J t.f.c.bk,O J t.f.c.slot,O J t.f.pl,O J t.f.cur,O J t.f.prev,O J t.f.slot,O J t.f.n,Y q.aK t.f.keys.length q.cK,.bool t.f.done,O J t.f.e,Y q.aH t.held.length q.cH] 49:=⟨_,rfl⟩
   have hbb:Below wr.heap.size wr ((wr.alloc ot).alloc ou):=below_alloc2 _ _ _
   have lT:Hid (wr.rangeAt b1 (o1+k*16) (t.enc p)):=g1
   have lU:Hid ((wr.alloc ot).rangeAt b2 (o2+k*16) (t.enc q)):=Dp g2 (A7 _ _) hb2
   have HT2:((wr.alloc ot).alloc ou).heap[wr.heap.size]?=some ot:=by rw[Below.heap_alloc _ _ _ (by simp),heap_alloc_new]
   have HU2:((wr.alloc ot).alloc ou).heap[wr.heap.size+1]?=some ou:=by
    have:=heap_alloc_new (wr.alloc ot) ou
    rwa [show (wr.alloc ot).heap.size=wr.heap.size+1 by simp] at this
   have lT2:Hid (((wr.alloc ot).alloc ou).rangeAt wr.heap.size 0 (t.enc p)):=Au (HT2.trans (congrArg some hot)) rfl
   have lU2:Hid (((wr.alloc ot).alloc ou).rangeAt (wr.heap.size+1) 0 (t.enc q)):=Au (HU2.trans (congrArg some hou)) rfl
   have HC:Hid (Calls Pg 66 #[.agg #[.bool t.busy,O J t.f.c.kind,O J t.f.c.a,O J t.f.c.b,O J t.f.c.time,O J t.f.c.bk,O J t.f.c.slot,O J t.f.pl,O J t.f.cur,O J t.f.prev,O J t.f.slot,O J t.f.n,Y p.aK t.f.keys.length p.cK,.bool t.f.done,O J t.f.e,Y p.aH t.held.length p.cH],.agg #[.bool t.busy,O J t.f.c.kind,O J t.f.c.a,O J t.f.c.b,O J t.f.c.time,O J t.f.c.bk,O J t.f.c.slot,O J t.f.pl,O J t.f.cur,O J t.f.prev,O J t.f.slot,O J t.f.n,Y q.aK t.f.keys.length q.cK,.bool t.f.done,O J t.f.e,Y q.aH t.held.length q.cH]] ((wr.alloc ot).alloc ou) fun e w'=>e=.returned (.bool true)/\Below ((wr.alloc ot).alloc ou).heap.size ((wr.alloc ot).alloc ou) w'):=a1y t p q _ (k1.below hbb) (k2.below hbb) (i1.below hbb) (i2.below hbb)
   have Hbb:Hid (Below w.heap.size w ((wr.alloc ot).alloc ou)):=Hb.out.trans (hbb.mono Hb.out.size)
   clear k1 k2 i1 i2 g1 g2 hbb HT2 HU2
   obtain⟨V2,hV2⟩:∃ V2,V2=(wr.alloc ot).alloc ou:=⟨_,rfl⟩
   rw[<- hV2] at lT2 lU2 HC Hbb
   subst hot hou
   have HV2:Hid (V2=(wr.alloc (.cells #[.bool t.busy,O J t.f.c.kind,O J t.f.c.a,O J t.f.c.b,O J t.f.c.time,O J t.f.c.bk,O J t.f.c.slot,O J t.f.pl,O J t.f.cur,O J t.f.prev,O J t.f.slot,O J t.f.n,Y p.aK t.f.keys.length p.cK,.bool t.f.done,O J t.f.e,Y p.aH t.held.length p.cH] 49)).alloc (.cells #[.bool t.busy,O J t.f.c.kind,O J t.f.c.a,O J t.f.c.b,O J t.f.c.time,O J t.f.c.bk,O J t.f.c.slot,O J t.f.pl,O J t.f.cur,O J t.f.prev,O J t.f.slot,O J t.f.n,Y q.aK t.f.keys.length q.cK,.bool t.f.done,O J t.f.e,Y q.aH t.held.length q.cH] 49)):=hV2
   clear hV2
   go_wp2_with (first|(have h9:=lT.out;refine Ud rfl (.tmp 20) rfl rfl h9 ?_;clear h9 lT)|(have h9:=lU.out;refine Ud rfl (.tmp 24) rfl rfl h9 ?_;clear h9 lU)|(rw[<- HV2.out];clear HV2)|(have h9:=lT2.out;refine Ud rfl (.tmp 8) rfl rfl h9 ?_;clear h9 lT2)|(have h9:=lU2.out;refine Ud rfl (.tmp 9) rfl rfl h9 ?_;clear h9 lU2))
   refine HC.out.mono ?_
   rintro e w3 ⟨rfl,hb3⟩
   have Hb3:Hid (Below w.heap.size w w3):=Hbb.out.trans (hb3.mono Hbb.out.size)
   clear hb3 HC Hbb
   go_wp2
   go_roundw
   case rel=>exact⟨k+1,by omega,by go_num,Hb3⟩
   case measure=>simp[intOf];omega
  ·go_wp2
   go_ret
   exact⟨rfl,Hb.out⟩
theorem Gy{W:Wd}{v1 v2:Value}{lo1 lo2:Nat}(w:Wq)(h1:D8 lo1 w v1 W)(h2:D8 lo2 w v2 W) :
  Calls Pg 20 #[v1,v2] w fun e w'=>e=.returned (.bool true)/\Below w.heap.size w w':=by
 obtain⟨aS,aH,aF,aL,cS,cH,cF,cL,aT,cT,l,rfl,A,hi,el,r,th⟩:=h1
 obtain⟨aS',aH',aF',aL',cS',cH',cF',cL',aT',cT',l',rfl,A',hi',el',r',th'⟩:=h2
 have hl:W.ts.length=l.length:=by rw[el,List.length_map]
 have hl':W.ts.length=l'.length:=by rw[el',List.length_map]
 obtain⟨M,ts⟩:=W
 dsimp only at *
 have hl2:l'.length=l.length:=by omega
 obtain⟨ot,hot⟩:∃ o:Obj,o=.cells #[Y aS M.slots.length cS,Y aH M.heads.length cH,Y aF M.free.length cF,Y aL M.locks.length cL,O J M.now,Y aT l.length cT] 28:=⟨_,rfl⟩
 obtain⟨ou,hou⟩:∃ o:Obj,o=.cells #[Y aS' M.slots.length cS',Y aH' M.heads.length cH',Y aF' M.free.length cF',Y aL' M.locks.length cL',O J M.now,Y aT' l'.length cT'] 28:=⟨_,rfl⟩
 have hb2:Below w.heap.size w ((w.alloc ot).alloc ou):=below_alloc2 _ _ _
 have HT2:Hid (((w.alloc ot).alloc ou).heap[w.heap.size]?=some ot):=by show _=_;rw[Below.heap_alloc _ _ _ (by simp),heap_alloc_new]
 have HU2:Hid (((w.alloc ot).alloc ou).heap[w.heap.size+1]?=some ou):=by
  have:=heap_alloc_new (w.alloc ot) ou
  rwa [show (w.alloc ot).heap.size=w.heap.size+1 by simp] at this
 have Hb2:Hid (Below w.heap.size w ((w.alloc ot).alloc ou)):=hb2
 have HSm:Hid (∀ V,Below w.heap.size w V->Calls Pg 64 #[.agg #[Y aS M.slots.length cS,Y aH M.heads.length cH,Y aF M.free.length cF,Y aL M.locks.length cL,O J M.now],.agg #[Y aS' M.slots.length cS',Y aH' M.heads.length cH',Y aF' M.free.length cF',Y aL' M.locks.length cL',O J M.now]] V fun e w'=>e=.returned (.bool true)/\Below V.heap.size V w'):=fun V hb=>by
  have h:=a5y M M _ _ V lo1 lo2 ⟨aS,aH,aF,aL,cS,cH,cF,cL,rfl,A.below hb,hi⟩ ⟨aS',aH',aF',aL',cS',cH',cF',cL',rfl,A'.below hb,hi'⟩
  rw[show eqM M M=true from (b0w _ _).2 rfl] at h
  exact h
 have HSt:Hid (∀ V,Below w.heap.size w V->Calls Pg 65 #[Y aT l.length cT,Y aT' l'.length cT',.func (.func 66) #[] #[]] V fun e w'=>e=.returned (.bool true)/\Below V.heap.size V w'):=fun V hb=>Z5 l l' _ _ _ _ V (r.below hb) (r'.below hb) (el.symm.trans el')
 rw[hl]
 conv in (Value.slice aT' l.length cT')=>rw[<- hl2]
 clear A A' hi hi' r r' th th' el el' hl hl' hl2 hb2
 go_enter Tryz.func20,Tryz.ntmps20
 go_wp2_with fail
 rw[<- hot,<- hou]
 generalize (w.alloc ot).alloc ou=W2 at *
 subst hot hou
 refine(HSm.out W2 Hb2.out).mono ?_
 rintro e w7 ⟨rfl,hb7⟩
 have HT7:=(hb7.block _ (lt_of_block HT2.out)).trans HT2.out
 have HU7:=(hb7.block _ (lt_of_block HU2.out)).trans HU2.out
 have Hb7:Hid (Below w.heap.size w w7):=Hb2.out.trans (hb7.mono Hb2.out.size)
 have t15:w7.cell? ⟨w.heap.size,5,none⟩=some (Y aT l.length cT):=by rw[cell_of_block HT7];rfl
 have u15:w7.cell? ⟨w.heap.size+1,5,none⟩=some (Y aT' l'.length cT'):=by rw[cell_of_block HU7];rfl
 clear HT7 HU7 HT2 HU2 hb7 HSm
 go_wp2_with fail
 refine(HSt.out w7 Hb7.out).mono ?_
 rintro e w8 ⟨rfl,hb8⟩
 have Hb8:Hid (Below w.heap.size w w8):=Hb7.out.trans (hb8.mono Hb7.out.size)
 clear t15 u15 hb8 HSt
 go_wp2
 go_ret
 exact⟨rfl,Hb8.out⟩
end
end Go.Proofs.YthhgoenomehobaaGreat.mm
