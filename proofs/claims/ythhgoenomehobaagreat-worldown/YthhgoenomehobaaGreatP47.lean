/- Parts. -/
import Derived.Test.YthhgoenomehobaaGreatP40
import Derived.Test.YthhgoenomehobaaGreatP27
import Derived.Test.YthhgoenomehobaaGreatP03
import Derived.Test.YthhgoenomehobaaGreatP38
import Derived.Test.YthhgoenomehobaaGreatP43
namespace Go.Proofs.YthhgoenomehobaaGreat.mm
set_option maxRecDepth 100000
set_option linter.unusedVariables false
open Go.Value renaming int → O, slice → Y
open Go.IntKind renaming i64 → J
section
open Go.ChangeShapes Go.WideShapes Go.ChangeAt Go.RowKit Go.Joins Go.Deep
theorem Vd:Tryz.prog.cellsOf 49=16:=by kernel_rfl
theorem Ze:Tryz.prog.cellsOf 26=1:=by kernel_rfl
theorem Zf:Tryz.prog.cellsOf 28=6:=by kernel_rfl
theorem a1i:Tryz.prog.bytesOf 49=160:=by kernel_rfl
variable {H:Type} {enc:TypeId × Value->H} {w:World}
theorem trod_struct3{P:Program}{base:Nat}{spare:Nat->Bool}{held:Bool}{t:TypeId}{f0 f1 f2:Field}{fuel:Nat}{cs:List Value}{x:DataW H × List MemPlace}(ht:P.underlying t=some (.struct #[f0,f1,f2]))(h:DataW.trod enc P w base spare held fuel t cs=some x) :
  ∃ y0 y1 y2 n,x.1=.agg [y0.1,y1.1,y2.1]/\cs.length=P.cellsOf t/\DataW.trod enc P w base spare held n f0.type ((cs.drop f0.offset).take (P.cellsOf f0.type))=some y0 /\
   DataW.trod enc P w base spare held n f1.type ((cs.drop f1.offset).take (P.cellsOf f1.type))=some y1/\DataW.trod enc P w base spare held n f2.type ((cs.drop f2.offset).take (P.cellsOf f2.type))=some y2:=by
 obtain⟨xs,n,_,rfl,hl,hlen,hf⟩:=DataW.trod_struct ht h
 match xs,hlen with
 | [y0,y1,y2],_=>exact⟨y0,y1,y2,n,by simp,hl,by simpa using hf 0 f0 rfl,by simpa using hf 1 f1 rfl,by simpa using hf 2 f2 rfl⟩
theorem a3r{fuel:Nat}{c0 c1 c2 c3 c4:Value}{x:DataW H × List MemPlace}(hf:DataW.trod enc Tryz.prog w 0 (fun _=>true) true fuel 25 [c0,c1,c2,c3,c4]=some x)(hz:∀ n∈x.1.weights Tryz.prog 25,n<=reachBytes):∃ M,Ans 0 w (.agg #[c0,c1,c2,c3,c4]) M:=by
 obtain⟨y0,y1,y2,y3,y4,n,hx,_,h0,h1,h2,h3,h4⟩:=Jr Tryz.underlying25 hf
 simp only[cells27,cells24,cells3] at h0 h1 h2 h3 h4
 obtain⟨d,pl⟩:=x
 have hd:d=.agg [y0.1,y1.1,y2.1,y3.1,y4.1]:=hx
 subst hd
 have hz':∀ n,n∈y0.1.weights Tryz.prog 22\/n∈y1.1.weights Tryz.prog 23\/n∈y2.1.weights Tryz.prog 23\/n∈y3.1.weights Tryz.prog 23->n<=reachBytes:=fun n hn=>hz n (by
  simp only[DataW.weights,Tryz.underlying25,DataW.weightsEach,List.map_cons,List.mem_append]
  rcases hn with h|h|h|h
  ·exact .inl h
  ·exact .inr (.inl h)
  ·exact .inr (.inr (.inl h))
  ·exact .inr (.inr (.inr (.inl h))))
 obtain⟨S,aS,cS,rfl,rS⟩:=a3t h0 (fun n hn=>hz' n (.inl hn))
 obtain⟨H,aH,cH,rfl,rH⟩:=N9 h1 (fun n hn=>hz' n (.inr (.inl hn)))
 obtain⟨F,aF,cF,rfl,rF⟩:=N9 h2 (fun n hn=>hz' n (.inr (.inr (.inl hn))))
 obtain⟨L,aL,cL,rfl,rL⟩:=N9 h3 (fun n hn=>hz' n (.inr (.inr (.inr hn))))
 obtain⟨now,e,_⟩:=DataW.trod_int Tryz.underlying3 h4
 simp at e
 subst e
 exact⟨⟨S,H,F,L,now⟩,aS,aH,aF,aL,cS,cH,cF,cL,rfl,⟨rS,rH,rF,rL⟩,⟨fun _ _=>Nat.zero_le _,fun _ _=>Nat.zero_le _,fun _ _=>Nat.zero_le _,fun _ _=>Nat.zero_le _⟩⟩
theorem Xl{fuel:Nat}{cs:List Value}{x:DataW H × List MemPlace}(hf:DataW.trod enc Tryz.prog w 0 (fun _=>true) true fuel 47 cs=some x)(hz:∀ n∈x.1.weights Tryz.prog 47,n<=reachBytes) :
  ∃ (f:Fr) (aK:Option Addr) (cK:Nat),cs=f.enc aK cK/\KRow w aK cK f.keys:=by
 obtain⟨y0,y1,y2,y3,y4,y5,y6,y7,y8,n,hx,hl,h0,h1,h2,h3,h4,h5,h6,h7,h8⟩:=Wx Tryz.underlying47 hf
 rw[Sm] at hl
 obtain⟨c0,c1,c2,c3,c4,c5,c6,c7,c8,c9,c10,c11,c12,c13,rfl⟩:=fourteen hl
 simp only[Q7,cells3,cells4,cellsErr,a1k] at h0 h1 h2 h3 h4 h5 h6 h7 h8
 obtain⟨d,pl⟩:=x
 have hd:d=.agg [y0.1,y1.1,y2.1,y3.1,y4.1,y5.1,y6.1,y7.1,y8.1]:=hx
 subst hd
 have hz':∀ n,n∈y6.1.weights Tryz.prog 45->n<=reachBytes:=fun n hn=>hz n (by
  simp only[DataW.weights,Tryz.underlying47,DataW.weightsEach,List.map_cons,List.mem_append]
  exact .inr (.inr (.inr (.inr (.inr (.inr (.inl hn)))))))
 obtain⟨c,ec⟩:=Wv h0
 obtain⟨pl,e1,_⟩:=DataW.trod_int Tryz.underlying3 h1
 obtain⟨cur,e2,_⟩:=DataW.trod_int Tryz.underlying3 h2
 obtain⟨prev,e3,_⟩:=DataW.trod_int Tryz.underlying3 h3
 obtain⟨slot,e4,_⟩:=DataW.trod_int Tryz.underlying3 h4
 obtain⟨nn,e5,_⟩:=DataW.trod_int Tryz.underlying3 h5
 obtain⟨K,aK,cK,e6,rK⟩:=a3q h6 hz'
 obtain⟨dn,e7,_⟩:=DataW.trod_bool Tryz.underlying4 h7
 obtain⟨ee,e8,_⟩:=DataW.trod_int Tryz.underlying36 h8
 simp at ec e1 e2 e3 e4 e5 e7 e8
 obtain⟨rfl,rfl,rfl,rfl,rfl,rfl⟩:=ec
 subst e1 e2 e3 e4 e5 e6 e7 e8
 exact⟨⟨c,pl,cur,prev,slot,nn,K,dn,ee⟩,aK,cK,rfl,rK⟩
theorem a3u{fuel:Nat}{cs:List Value}{x:DataW H × List MemPlace}(hf:DataW.trod enc Tryz.prog w 0 (fun _=>true) true fuel 49 cs=some x)(hz:∀ n∈x.1.weights Tryz.prog 49,n<=reachBytes) :
  ∃ p:Tk × TkV,cs=p.1.enc p.2/\KRow w p.2.aK p.2.cK p.1.f.keys/\IRow w p.2.aH p.2.cH p.1.held:=by
 obtain⟨y0,y1,y2,n,hx,hl,h0,h1,h2⟩:=trod_struct3 Tryz.underlying49 hf
 rw[Vd] at hl
 obtain⟨d,pl⟩:=x
 have hd:d=.agg [y0.1,y1.1,y2.1]:=hx
 subst hd
 have hz':∀ n,n∈y1.1.weights Tryz.prog 47\/n∈y2.1.weights Tryz.prog 23->n<=reachBytes:=fun n hn=>hz n (by
  simp only[DataW.weights,Tryz.underlying49,DataW.weightsEach,List.map_cons,List.mem_append]
  rcases hn with h|h
  ·exact .inr (.inl h)
  ·exact .inr (.inr (.inl h)))
 simp only[cells4,Sm,cells24] at h0 h1 h2
 match cs,hl with
 | [c0,c1,c2,c3,c4,c5,c6,c7,c8,c9,c10,c11,c12,c13,c14,c15],_ =>
  obtain⟨b,e0,_⟩:=DataW.trod_bool Tryz.underlying4 h0
  obtain⟨f,aK,cK,e1,rK⟩:=Xl h1 (fun n hn=>hz' n (.inl hn))
  obtain⟨hd,aH,cH,e2,rH⟩:=N9 h2 (fun n hn=>hz' n (.inr hn))
  refine⟨(⟨b,f,hd⟩,⟨aK,cK,aH,cH⟩),?_,rK,rH⟩
  simp only[List.drop,List.take] at e0 e1
  simp only[List.cons.injEq,and_true] at e0
  show _=Value.bool b :: (f.enc aK cK ++ [.slice aH hd.length cH])
  rw[<- e1,<- e0,<- e2]
  rfl
theorem weightsAll_mem{P:Program}{e:TypeId}:∀ {a:List (DataW H)} {d:DataW H},d∈a->∀ {n:Nat},n∈d.weights P e->n∈DataW.weightsAll P e a
 | x :: a,d,h,n,hn=>by
  unfold DataW.weightsAll
  rcases List.mem_cons.1 h with rfl|h
  ·exact List.mem_append_left _ hn
  ·exact List.mem_append_right _ (weightsAll_mem h hn)
theorem Uz{P:Program}{t e:TypeId}(ht:P.underlying t=some (.slice e)){a b:List (DataW H)}{d:DataW H}(hd:d∈a){n:Nat}(hn:n∈d.weights P e):n∈(DataW.slice a b).weights P t:=by
 simp only[DataW.weights,ht]
 have:=weightsAll_mem hd hn
 simp[this]
theorem a3v{fuel:Nat}{c:Value}{x:DataW H × List MemPlace}(h:DataW.trod enc Tryz.prog w 0 (fun _=>true) true fuel 26 [c]=some x)(hz:∀ n∈x.1.weights Tryz.prog 26,n<=reachBytes) :
  ∃ l ao cap,c=.slice ao l.length cap/\TRow w ao cap l:=by
 rcases open_slice Tryz.underlying26 h with ⟨e,-⟩|⟨a,len,cap,m,n,D,Pl,e,hb,hl,hm,hmm,hx,hc⟩
 ·simp at e
  exact⟨[],none,0,e,Yz w⟩
 ·simp at e hmm
  subst e hmm
  rw[Vd] at hc
  rw[hx] at hz
  obtain⟨S,hS⟩:=@choose_lt (Tk × TkV) ⟨(⟨false,⟨⟨0,0,0,0,0,0⟩,0,0,0,0,0,[],false,0⟩,[]⟩,⟨none,0,none,0⟩)⟩ len (fun i s=>w.cells? 0 (a.add (i*16)) 16=some (s.1.enc s.2)/\KRow w s.2.aK s.2.cK s.1.f.keys/\IRow w s.2.aH s.2.cH s.1.held) (fun i hi=>by
   obtain⟨cs',h1,h2⟩:=hc i (by omega)
   obtain⟨s,rfl,r1,r2⟩:=a3u h2 (fun n hn=>hz n (Uz Tryz.underlying26 (List.mem_map.2 ⟨i,List.mem_range.2 hi,rfl⟩) hn))
   exact⟨s,h1,r1,r2⟩)
  have hlt:((List.range len).map S).length=len:=by simp
  refine⟨(List.range len).map S,some a,m,by rw[hlt],by omega,?_,(fun h=>by cases h),?_,fun p hp=>?_,fun p hp=>?_⟩
  ·have:=hz ((len+(m - len))*160) (by simp[DataW.weights,Tryz.underlying26,a1i])
   unfold reachBytes at this
   rw[hlt]
   omega
  ·by_cases h0:len=0
   ·left;omega
   ·right
    obtain⟨b,off,spot⟩:=a
    have hspot:spot=none:=by
     have:=(World.cells?_some (hS 0 (by omega)).1).2.2 0 (by omega)
     obtain⟨v,hv⟩:=Oz (S 0).1 (S 0).2 (q:=0) (by omega)
     rw[hv] at this
     simpa [Addr.add] using World.cell?_spot this
    subst hspot
    refine⟨b,off,rfl,fun i hi q hq=>?_⟩
    have hi':i<len:=by simpa using hi
    have e:((List.range len).map S)[i]=S i:=by simp
    rw[e]
    have:=(World.cells?_some (hS i hi').1).2.2 q hq
    rwa [Addr.add_lit,Addr.add_lit] at this
  ·obtain⟨i,hi,rfl⟩:=List.mem_map.1 hp
   exact(hS i (List.mem_range.1 hi)).2.1
  ·obtain⟨i,hi,rfl⟩:=List.mem_map.1 hp
   exact(hS i (List.mem_range.1 hi)).2.2
theorem open_world{r:Reach}{b0:Nat}{v:Value}{d:DataW H}{p:List MemPlace}(hv:Value.okWide Tryz.prog w r b0 28 v)(h:DataW.Trod enc Tryz.prog w 0 (fun _=>true) true 28 v d p)(hz:∀ n∈d.weights Tryz.prog 28,n<=reachBytes) :
  ∃ (M:Mm) (l:List (Tk × TkV)) (aS aH aF aL:Option Addr) (cS cH cF cL:Nat) (aT:Option Addr) (cT:Nat),v=.agg #[.slice aS M.slots.length cS,.slice aH M.heads.length cH,.slice aF M.free.length cF,.slice aL M.locks.length cL,.int .i64 M.now,.slice aT l.length cT]/\At w aS aH aF aL cS cH cF cL M/\TRow w aT cT l:=by
 obtain⟨cs,rfl,hsz⟩:=okWide_struct Tryz.underlying28 hv
 obtain⟨l⟩:=cs
 rw[Zf] at hsz
 obtain⟨c0,c1,c2,c3,c4,c5,rfl⟩:=six hsz
 obtain⟨fuel,hf⟩:=h
 obtain⟨z0,z1,m,hx,_,k0,k1⟩:=trod_struct2 Tryz.underlying28 hf
 simp only[Value.cells,cells29,Ze] at k0 k1
 have hd:d=.agg [z0.1,z1.1]:=congrArg Prod.fst hx
 subst hd
 have hz':∀ n,n∈z0.1.weights Tryz.prog 25\/n∈z1.1.weights Tryz.prog 26->n<=reachBytes:=fun n hn=>hz n (by
  simp only[DataW.weights,Tryz.underlying28,DataW.weightsEach,List.map_cons,List.mem_append]
  rcases hn with h|h
  ·exact .inl h
  ·exact .inr (.inl h))
 obtain⟨M,aS,aH,aF,aL,cS,cH,cF,cL,e,A,-⟩:=a3r (c0:=c0) (c1:=c1) (c2:=c2) (c3:=c3) (c4:=c4) k0 (fun n hn=>hz' n (.inl hn))
 obtain⟨l,aT,cT,e5,r⟩:=a3v (c:=c5) k1 (fun n hn=>hz' n (.inr hn))
 injection e with e
 simp only[Array.mk.injEq,List.cons.injEq,and_true] at e
 obtain⟨rfl,rfl,rfl,rfl,rfl⟩:=e
 subst e5
 exact⟨M,l,aS,aH,aF,aL,cS,cH,cF,cL,aT,cT,rfl,A,r⟩
theorem open_pickV{r:Reach}{b0:Nat}{v:Value}{d:DataW H}{p:List MemPlace}(hv:Value.okWide Tryz.prog w r b0 34 v)(h:DataW.Trod enc Tryz.prog w 0 (fun _=>true) true 34 v d p) :
  ∃ x:Pk,v=.agg #[.int .i64 x.task,.bool x.step,.bool x.tick,.int .i64 x.c.kind,.int .i64 x.c.a,.int .i64 x.c.b,.int .i64 x.c.time,.int .i64 x.c.bk,.int .i64 x.c.slot]:=by
 obtain⟨cs,rfl,hsz⟩:=okWide_struct Tryz.underlying34 hv
 obtain⟨fuel,hf⟩:=h
 obtain⟨x,hx⟩:=W9 hf
 refine⟨x,?_⟩
 obtain⟨l⟩:=cs
 have hx':l=_:=hx
 rw[hx']
theorem world_ans{M:Mm}{l:List (Tk × TkV)}{aS aH aF aL:Option Addr}{cS cH cF cL:Nat}{aT:Option Addr}{cT:Nat}(A:At w aS aH aF aL cS cH cF cL M)(r:TRow w aT cT l):WAns 0 w (.agg #[.slice aS M.slots.length cS,.slice aH M.heads.length cH,.slice aF M.free.length cF,.slice aL M.locks.length cL,.int .i64 M.now,.slice aT (l.map (·.1)).length cT]) ⟨M,l.map (·.1)⟩ :=
 ⟨aS,aH,aF,aL,cS,cH,cF,cL,aT,cT,l,rfl,A,⟨fun _ _=>Nat.zero_le _,fun _ _=>Nat.zero_le _,fun _ _=>Nat.zero_le _,fun _ _=>Nat.zero_le _⟩,rfl,r,⟨fun _ _=>Nat.zero_le _,fun _ _ _ _=>Nat.zero_le _,fun _ _ _ _=>Nat.zero_le _⟩⟩
end
section
open Go.ChangeShapes Go.WideShapes Go.ChangeAt Go.RowKit Go.Joins
def eqM(A B:Mm):Bool:=eqS A.slots B.slots && (eqI A.heads B.heads && (eqI A.free B.free && (eqI A.locks B.locks && A.now==B.now)))
theorem eqM_iff(A B:Mm):eqM A B=true ↔ A=B:=by
 obtain⟨S,H,F,L,n⟩:=A
 obtain⟨S',H',F',L',n'⟩:=B
 simp only[eqM,Bool.and_eq_true,X7,a1x,beq_iff_eq,Mm.mk.injEq]
set_option maxHeartbeats 3200000 in
theorem same_any(A B:Mm)(v1 v2:Value)(w:World)(lo1 lo2:Nat)(H1:Ans lo1 w v1 A)(H2:Ans lo2 w v2 B) :
  Calls Tryz.prog 25 #[v1,v2] w fun e w'=>e=.returned (.bool (eqM A B))/\Below w.heap.size w w':=by
 obtain⟨aS1,aH1,aF1,aL1,cS1,cH1,cF1,cL1,rfl,A1,-⟩:=H1
 obtain⟨aS2,aH2,aF2,aL2,cS2,cH2,cF2,cL2,rfl,A2,-⟩:=H2
 generalize hR:eqM A B=R
 have HR:Hid _:=hR
 clear hR
 have b0:Below w.heap.size w ((w.alloc (.cells #[Y aS1 A.slots.length cS1,Y aH1 A.heads.length cH1,Y aF1 A.free.length cF1,Y aL1 A.locks.length cL1,O J A.now] 25)).alloc (.cells #[Y aS2 B.slots.length cS2,Y aH2 B.heads.length cH2,Y aF2 B.free.length cF2,Y aL2 B.locks.length cL2,O J B.now] 25)):=below_alloc2 w _ _
 have HA0:Hid _:=A1.below b0
 have HB0:Hid _:=A2.below b0
 have HX0:Hid (((w.alloc (.cells #[Y aS1 A.slots.length cS1,Y aH1 A.heads.length cH1,Y aF1 A.free.length cF1,Y aL1 A.locks.length cL1,O J A.now] 25)).alloc (.cells #[Y aS2 B.slots.length cS2,Y aH2 B.heads.length cH2,Y aF2 B.free.length cF2,Y aL2 B.locks.length cL2,O J B.now] 25)).heap[w.heap.size]?=some (.cells #[Y aS1 A.slots.length cS1,Y aH1 A.heads.length cH1,Y aF1 A.free.length cF1,Y aL1 A.locks.length cL1,O J A.now] 25 (0,0))):=by show _=_;rw[Below.heap_alloc _ _ _ (by simp),heap_alloc_new]
 have HY0:Hid (((w.alloc (.cells #[Y aS1 A.slots.length cS1,Y aH1 A.heads.length cH1,Y aF1 A.free.length cF1,Y aL1 A.locks.length cL1,O J A.now] 25)).alloc (.cells #[Y aS2 B.slots.length cS2,Y aH2 B.heads.length cH2,Y aF2 B.free.length cF2,Y aL2 B.locks.length cL2,O J B.now] 25)).heap[w.heap.size+1]?=some (.cells #[Y aS2 B.slots.length cS2,Y aH2 B.heads.length cH2,Y aF2 B.free.length cF2,Y aL2 B.locks.length cL2,O J B.now] 25 (0,0))):=by
  have:=heap_alloc_new (w.alloc (.cells #[Y aS1 A.slots.length cS1,Y aH1 A.heads.length cH1,Y aF1 A.free.length cF1,Y aL1 A.locks.length cL1,O J A.now] 25)) (.cells #[Y aS2 B.slots.length cS2,Y aH2 B.heads.length cH2,Y aF2 B.free.length cF2,Y aL2 B.locks.length cL2,O J B.now] 25)
  rwa [show (w.alloc (.cells #[Y aS1 A.slots.length cS1,Y aH1 A.heads.length cH1,Y aF1 A.free.length cF1,Y aL1 A.locks.length cL1,O J A.now] 25)).heap.size=w.heap.size+1 by simp] at this
 clear A1 A2
 go_enter Tryz.func25,Tryz.ntmps25
 go_wp2_with fail
 generalize (w.alloc (.cells #[Y aS1 A.slots.length cS1,Y aH1 A.heads.length cH1,Y aF1 A.free.length cF1,Y aL1 A.locks.length cL1,O J A.now] 25)).alloc (.cells #[Y aS2 B.slots.length cS2,Y aH2 B.heads.length cH2,Y aF2 B.free.length cF2,Y aL2 B.locks.length cL2,O J B.now] 25)=W0 at *
 refine(Zk aS1 aS2 cS1 cS2 A.slots B.slots _ HA0.out.s HB0.out.s).mono ?_
 rintro e w1 ⟨rfl,hb1⟩
 have b1:=b0.trans (hb1.mono b0.size)
 have HX1:Hid _:=(hb1.block w.heap.size (lt_of_block HX0.out)).trans HX0.out
 have HY1:Hid _:=(hb1.block (w.heap.size+1) (lt_of_block HY0.out)).trans HY0.out
 have HA1:Hid _:=HA0.out.below hb1
 have HB1:Hid _:=HB0.out.below hb1
 clear hb1 b0 HX0 HY0 HA0 HB0
 obtain⟨q0,q1,q2,q3,q4,-,-,-,-,-,-⟩:=boxf HX1.out
 obtain⟨r0,r1,r2,r3,r4,-,-,-,-,-,-⟩:=boxf HY1.out
 cases h0:eqS A.slots B.slots
 ·have HV:Hid (R=false):=HR.out.symm.trans (by simp[eqM,h0])
  go_wp2
  go_ret
  exact⟨F6 HV.out.symm,b1⟩
 have Hh0:Hid _:=h0
 clear h0
 go_wp2_with fail
 refine(Jt aH1 aH2 cH1 cH2 A.heads B.heads _ HA1.out.h HB1.out.h).mono ?_
 rintro e w2 ⟨rfl,hb2⟩
 have b2:=b1.trans (hb2.mono b1.size)
 have HX2:Hid _:=(hb2.block w.heap.size (lt_of_block HX1.out)).trans HX1.out
 have HY2:Hid _:=(hb2.block (w.heap.size+1) (lt_of_block HY1.out)).trans HY1.out
 have HA2:Hid _:=HA1.out.below hb2
 have HB2:Hid _:=HB1.out.below hb2
 clear hb2 b1 HX1 HY1 HA1 HB1
 clear q0 q1 q2 q3 q4 r0 r1 r2 r3 r4
 obtain⟨q0,q1,q2,q3,q4,-,-,-,-,-,-⟩:=boxf HX2.out
 obtain⟨r0,r1,r2,r3,r4,-,-,-,-,-,-⟩:=boxf HY2.out
 cases h1:eqI A.heads B.heads
 ·have HV:Hid (R=false):=HR.out.symm.trans (by simp[eqM,Hh0.out,h1])
  go_wp2
  go_ret
  exact⟨F6 HV.out.symm,b2⟩
 have Hh1:Hid _:=h1
 clear h1
 go_wp2_with fail
 refine(Jt aF1 aF2 cF1 cF2 A.free B.free _ HA2.out.f HB2.out.f).mono ?_
 rintro e w3 ⟨rfl,hb3⟩
 have b3:=b2.trans (hb3.mono b2.size)
 have HX3:Hid _:=(hb3.block w.heap.size (lt_of_block HX2.out)).trans HX2.out
 have HY3:Hid _:=(hb3.block (w.heap.size+1) (lt_of_block HY2.out)).trans HY2.out
 have HA3:Hid _:=HA2.out.below hb3
 have HB3:Hid _:=HB2.out.below hb3
 clear hb3 b2 HX2 HY2 HA2 HB2
 clear q0 q1 q2 q3 q4 r0 r1 r2 r3 r4
 obtain⟨q0,q1,q2,q3,q4,-,-,-,-,-,-⟩:=boxf HX3.out
 obtain⟨r0,r1,r2,r3,r4,-,-,-,-,-,-⟩:=boxf HY3.out
 cases h2:eqI A.free B.free
 ·have HV:Hid (R=false):=HR.out.symm.trans (by simp[eqM,Hh0.out,Hh1.out,h2])
  go_wp2
  go_ret
  exact⟨F6 HV.out.symm,b3⟩
 have Hh2:Hid _:=h2
 clear h2
 go_wp2_with fail
 refine(Jt aL1 aL2 cL1 cL2 A.locks B.locks _ HA3.out.l HB3.out.l).mono ?_
 rintro e w4 ⟨rfl,hb4⟩
 have b4:=b3.trans (hb4.mono b3.size)
 have HX4:Hid _:=(hb4.block w.heap.size (lt_of_block HX3.out)).trans HX3.out
 have HY4:Hid _:=(hb4.block (w.heap.size+1) (lt_of_block HY3.out)).trans HY3.out
 have HA4:Hid _:=HA3.out.below hb4
 have HB4:Hid _:=HB3.out.below hb4
 clear hb4 b3 HX3 HY3 HA3 HB3
 clear q0 q1 q2 q3 q4 r0 r1 r2 r3 r4
 obtain⟨q0,q1,q2,q3,q4,-,-,-,-,-,-⟩:=boxf HX4.out
 obtain⟨r0,r1,r2,r3,r4,-,-,-,-,-,-⟩:=boxf HY4.out
 cases h3:eqI A.locks B.locks
 ·have HV:Hid (R=false):=HR.out.symm.trans (by simp[eqM,Hh0.out,Hh1.out,Hh2.out,h3])
  go_wp2
  go_ret
  exact⟨F6 HV.out.symm,b4⟩
 have Hh3:Hid _:=h3
 clear h3
 have HV:Hid (R=(A.now==B.now)):=HR.out.symm.trans (by simp[eqM,Hh0.out,Hh1.out,Hh2.out,Hh3.out])
 go_wp2
 go_ret
 exact⟨F6 HV.out.symm,b4⟩
end
section
theorem Pm(m:Mm)(s:Int):(putN m s).now=m.now:=by unfold putN;split <;> rfl
theorem a2j(m:Mm)(s:Int):(holdN m s).now=m.now:=by unfold holdN;split <;> rfl
theorem Y7(m:Mm)(b:Nat)(p a:Int):(cutM m b p a).now=m.now:=by unfold cutM;split <;> rfl
theorem lkM_now(m:Mm)(f:Fr):(lkM m f).now=m.now:=by
 unfold lkM Gz Bq
 repeat' split
 all_goals first|rfl|exact Pm _ _|exact a2j _ _
theorem adM_now(t:Int)(m:Mm)(f:Fr):(adM t m f).now=m.now:=(Y1 t m f).now
theorem drM_now(t:Int)(m:Mm)(f:Fr):(drM t m f).now=m.now:=by
 unfold drM Cm Ei D5 Et
 repeat' split
 all_goals first|rfl|exact Pm _ _|exact Y7 _ _ _ _
theorem swM_now(t:Int)(m:Mm)(f:Fr):(swM t m f).now=m.now:=by
 unfold swM Cm Ei D5 Et
 repeat' split
 all_goals first|rfl|exact Pm _ _|exact Y7 _ _ _ _
theorem a4l(m:Mm)(i:Nat)(t:Tk):(stepT m i t).1.now=m.now:=by
 unfold stepT
 split
 ·exact lkM_now _ _
 split
 ·exact adM_now _ _ _
 split
 ·exact drM_now _ _ _
 split
 ·show (if t.f.c.slot∈t.held then putN m t.f.c.slot else m).now=m.now
  split
  ·exact Pm _ _
  ·rfl
 ·exact swM_now _ _ _
theorem own_do{w:Wd}{x:Pk}(h:doE w x=0):(doW w x).ts.length=w.ts.length/\(∀ k:Nat,(k:Int)≠x.task\/x.tick=true->(doW w x).ts[k]?=w.ts[k]?)/\(x.tick=true->(doW w x).m.now=w.m.now+1)/\(x.tick=false->(doW w x).m.now=w.m.now)/\(x.step=false->x.tick=false->(doW w x).m=w.m):=by
 cases Jo h using Kd.rule with
 | tick ht hn e =>
  rw[e]
  exact⟨rfl,fun _ _=>rfl,fun _=>rfl,(fun h'=>by rw[ht] at h';cases h'),fun _ h'=>by rw[ht] at h';cases h'⟩
 | step ht hs hr hi hb e =>
  rw[e]
  refine⟨by simp,fun k hk=>?_,(fun h'=>by rw[ht] at h';cases h'),fun _=>a4l _ _ _,fun h'=>by rw[hs] at h';cases h'⟩
  rcases hk with hk|hk
  ·exact List.getElem?_set_ne (by omega)
  ·rw[ht] at hk;cases hk
 | begin ht hs hr hi hb hc h1 h6 e =>
  rw[e]
  refine⟨by simp,fun k hk=>?_,(fun h'=>by rw[ht] at h';cases h'),fun _=>rfl,fun _ _=>rfl⟩
  rcases hk with hk|hk
  ·exact List.getElem?_set_ne (by omega)
  ·rw[ht] at hk;cases hk
end
section
open Go.ChangeShapes Go.WideShapes Go.ChangeAt Go.RowKit Go.Joins Go.Deep Go.Maps
def BlW(w V:World):Prop:=Below w.heap.size w V
theorem do_ans{W:Wd}{x:Pk}{lo:Nat}{V:World}{aS aH aF aL:Option Addr}{cS cH cF cL:Nat}{aT:Option Addr}{cT:Nat}(h:WAns lo V (.agg #[Y aS W.m.slots.length cS,Y aH W.m.heads.length cH,Y aF W.m.free.length cF,Y aL W.m.locks.length cL,O J W.m.now,Y aT W.ts.length cT]) W) :
  Calls Tryz.prog 15 #[.agg #[Y aS W.m.slots.length cS,Y aH W.m.heads.length cH,Y aF W.m.free.length cF,Y aL W.m.locks.length cL,O J W.m.now,Y aT W.ts.length cT],.agg #[O J x.task,.bool x.step,.bool x.tick,O J x.c.kind,O J x.c.a,O J x.c.b,O J x.c.time,O J x.c.bk,O J x.c.slot]] V (DoP V W x):=by
 obtain⟨lt,A,hi,hts,hT,hTh⟩:=h.parts
 have h:=do_any W.m lt x aS aH aF aL cS cH cF cL aT cT V A hT
 have hts':lt.length=W.ts.length:=by rw[hts,List.length_map]
 rw[<- hts,hts'] at h
 exact h
theorem a5g{a:Nat}{w:World}{aS aH aF aL:Option Addr}{cS cH cF cL:Nat}{aT:Option Addr}{cT:Nat}{W:Wd}(h:WAns a w (.agg #[Y aS W.m.slots.length cS,Y aH W.m.heads.length cH,Y aF W.m.free.length cF,Y aL W.m.locks.length cL,O J W.m.now,Y aT W.ts.length cT]) W){t:Nat}(ht:t<W.ts.length) :
  ∃ lt:TkV,KRow w lt.aK lt.cK (W.ts[t]).f.keys/\IRow w lt.aH lt.cH (W.ts[t]).held/\W.ts.length<=cT/\∃ p q,aT=some ⟨p,q,none⟩/\w.rangeAt p (q+t*16) ((W.ts[t]).enc lt):=by
 obtain⟨lt,A,hi,hts,hT,hTh⟩:=h.parts
 have hl:W.ts.length=lt.length:=by rw[hts,List.length_map]
 have ht':t<lt.length:=by omega
 have e:W.ts[t]=lt[t].1:=by simp[hts]
 rw[e]
 refine⟨lt[t].2,hT.keys _ (List.getElem_mem ht'),hT.held _ (List.getElem_mem ht'),by have:=hT.le;omega,?_⟩
 rcases hT.at_ with h0|⟨b,o,e2,hc⟩
 ·omega
 ·refine⟨b,o,e2,fun j v hv=>?_⟩
  have hj:j<16:=(List.getElem?_eq_some_iff.1 hv).1
  rw[hc t ht' j hj]
  exact hv
theorem a1r{W:Wd}{x:Pk}(h:DoE W x=0):wE W=0/\doE W x=0:=by
 unfold DoE at h
 split at h
 ·next h1=>exact absurd h h1
 ·next h1=>exact⟨by simpa using h1,h⟩
set_option maxHeartbeats 4000000 in
theorem worldOwn_any{W:Wd}(x:Pk)(aS aH aF aL:Option Addr)(cS cH cF cL:Nat)(aT:Option Addr)(cT:Nat)(w:World)(hv:WAns 0 w (.agg #[Y aS W.m.slots.length cS,Y aH W.m.heads.length cH,Y aF W.m.free.length cF,Y aL W.m.locks.length cL,O J W.m.now,Y aT W.ts.length cT]) W) :
  Calls Tryz.prog 4 #[.agg #[Y aS W.m.slots.length cS,Y aH W.m.heads.length cH,Y aF W.m.free.length cF,Y aL W.m.locks.length cL,O J W.m.now,Y aT W.ts.length cT],.agg #[O J x.task,.bool x.step,.bool x.tick,O J x.c.kind,O J x.c.a,O J x.c.b,O J x.c.time,O J x.c.bk,O J x.c.slot]] w fun e w'=>e=.returned (.bool true)/\Below w.heap.size w w':=by
 obtain⟨ox,hox⟩:∃ o:Obj,o=.cells #[Y aS W.m.slots.length cS,Y aH W.m.heads.length cH,Y aF W.m.free.length cF,Y aL W.m.locks.length cL,O J W.m.now,Y aT W.ts.length cT] 28:=⟨_,rfl⟩
 obtain⟨oy,hoy⟩:∃ o:Obj,o=.cells #[O J x.task,.bool x.step,.bool x.tick,O J x.c.kind,O J x.c.a,O J x.c.b,O J x.c.time,O J x.c.bk,O J x.c.slot] 34:=⟨_,rfl⟩
 have b0:Below w.heap.size w ((w.alloc ox).alloc oy):=below_alloc2 w ox oy
 have HX0:Hid (((w.alloc ox).alloc oy).heap[w.heap.size]?=some ox):=by show _=_;rw[Below.heap_alloc _ _ _ (by simp),heap_alloc_new]
 have HY0:Hid (((w.alloc ox).alloc oy).heap[w.heap.size+1]?=some oy):=by
  have:=heap_alloc_new (w.alloc ox) oy
  rwa [show (w.alloc ox).heap.size=w.heap.size+1 by simp] at this
 have HV0:Hid (WAns 0 ((w.alloc ox).alloc oy) (.agg #[Y aS W.m.slots.length cS,Y aH W.m.heads.length cH,Y aF W.m.free.length cF,Y aL W.m.locks.length cL,O J W.m.now,Y aT W.ts.length cT]) W):=hv.below b0
 have HPl:Hid (∀ W:World,Calls Tryz.prog 18 #[] W fun e w'=>e=.returned (.bool true)/\Below W.heap.size W w'):=Tv
 have l6:Hid (((w.alloc (.cells #[Y aS W.m.slots.length cS,Y aH W.m.heads.length cH,Y aF W.m.free.length cF,Y aL W.m.locks.length cL,O J W.m.now,Y aT W.ts.length cT] 28)).alloc (.cells #[O J x.task,.bool x.step,.bool x.tick,O J x.c.kind,O J x.c.a,O J x.c.b,O J x.c.time,O J x.c.bk,O J x.c.slot] 34)).rangeAt w.heap.size 0 [Y aS W.m.slots.length cS,Y aH W.m.heads.length cH,Y aF W.m.free.length cF,Y aL W.m.locks.length cL,O J W.m.now,Y aT W.ts.length cT]):=by subst hox hoy;exact Aw HX0.out rfl
 have lX:Hid (((w.alloc (.cells #[Y aS W.m.slots.length cS,Y aH W.m.heads.length cH,Y aF W.m.free.length cF,Y aL W.m.locks.length cL,O J W.m.now,Y aT W.ts.length cT] 28)).alloc (.cells #[O J x.task,.bool x.step,.bool x.tick,O J x.c.kind,O J x.c.a,O J x.c.b,O J x.c.time,O J x.c.bk,O J x.c.slot] 34)).rangeAt (w.heap.size+1) 0 [O J x.task,.bool x.step,.bool x.tick,O J x.c.kind,O J x.c.a,O J x.c.b,O J x.c.time,O J x.c.bk,O J x.c.slot]):=by subst hox hoy;exact Aw HY0.out rfl
 clear hv
 go_enter Tryz.func4,Tryz.ntmps4
 go_wp2_with (first|refine wl_6 rfl _ rfl rfl l6.out ?_|refine wl_X rfl _ rfl rfl lX.out ?_)
 rw[<- hox,<- hoy]
 rw[<- hox,<- hoy] at l6 lX
 clear l6 lX
 generalize (w.alloc ox).alloc oy=V0 at *
 subst hox hoy
 refine(do_ans HV0.out).mono ?_
 rintro e w1 ⟨v,rfl,hu,hb1⟩
 obtain⟨E,hE⟩:∃ E,E=DoE W x:=⟨_,rfl⟩
 rw[<- hE] at hu ⊢
 have Hb1:Hid (Below V0.heap.size V0 w1):=hb1
 have Hb0:Hid (Below w.heap.size w V0):=b0
 clear hb1 b0
 by_cases h0:E=0
 rotate_left
 ·have h':(E != 0)=true:=by simpa using h0
  obtain⟨aS1,aH1,aF1,aL1,cS1,cH1,cF1,cL1,aT1,cT1,lt1,rfl,-⟩:=hu
  have Hb2:Hid (∀ o:Obj,Below w.heap.size w (w1.alloc o)):=fun o=>(Hb0.out.trans (Hb1.out.mono Hb0.out.size)).alloc (Hb0.out.trans (Hb1.out.mono Hb0.out.size)).size o
  clear hE Hb0 Hb1
  go_wp2_with fail
  refine(HPl.out _).mono ?_
  rintro e w3 ⟨rfl,hb3⟩
  have Hb3:Hid (Below w.heap.size w w3):=(Hb2.out _).trans (hb3.mono (Hb2.out _).size)
  clear hb3 Hb2
  go_wp2_with fail
  refine(HPl.out _).mono ?_
  rintro e w4 ⟨rfl,hb4⟩
  have Hb4:Hid (Below w.heap.size w w4):=Hb3.out.trans (hb4.mono Hb3.out.size)
  clear hb4 Hb3
  go_wp2
  go_ret
  exact⟨rfl,Hb4.out⟩
 rw[if_pos h0] at hu
 obtain⟨hw,hd⟩:=a1r (hE.symm.trans h0)
 obtain⟨n1,n2,n3,n4,n5⟩:=own_do hd
 have hok:Ok W.m:=(G9 _).1 (Rn.1 hw).1
 have hnow:=hok.now
 have hn5:W.ts.length<=5:=(Rn.1 hw).2.2.1
 obtain⟨U,hU⟩:∃ U,U=doW W x:=⟨_,rfl⟩
 rw[<- hU] at hu n1 n2 n3 n4 n5
 have HN1:Hid (U.ts.length=W.ts.length):=n1
 have HN2:Hid (∀ (k:Nat),(k:Int)≠x.task\/x.tick=true->U.ts[k]?=W.ts[k]?):=n2
 have HN3:Hid (x.tick=true->U.m.now=W.m.now+1):=n3
 have HN4:Hid (x.tick=false->U.m.now=W.m.now):=n4
 have HN5:Hid (x.step=false->x.tick=false->U.m=W.m):=n5
 clear n1 n2 n3 n4 n5
 clear hE hU hd hw
 subst h0
 obtain⟨aS1,aH1,aF1,aL1,cS1,cH1,cF1,cL1,aT1,cT1,lt1,rfl,-⟩:=id hu
 obtain⟨oz,hoz⟩:∃ o:Obj,o=.cells #[Y aS1 U.m.slots.length cS1,Y aH1 U.m.heads.length cH1,Y aF1 U.m.free.length cF1,Y aL1 U.m.locks.length cL1,O J U.m.now,Y aT1 U.ts.length cT1] 28:=⟨_,rfl⟩
 have HZ2:Hid ((w1.alloc oz).heap[w1.heap.size]?=some oz):=heap_alloc_new _ _
 have HU2:Hid (WAns 0 (w1.alloc oz) (.agg #[Y aS1 U.m.slots.length cS1,Y aH1 U.m.heads.length cH1,Y aF1 U.m.free.length cF1,Y aL1 U.m.locks.length cL1,O J U.m.now,Y aT1 U.ts.length cT1]) U):=(hu.below (Aa _ _)).mono (Nat.zero_le _)
 have Hb2:Hid (Below V0.heap.size V0 (w1.alloc oz)):=Hb1.out.alloc Hb1.out.size _
 clear hu Hb1
 go_wp2_with fail
 rw[<- hoz]
 generalize w1.alloc oz=W2 at *
 subst hoz
 refine(HPl.out W2).mono ?_
 rintro e w3 ⟨rfl,hb3⟩
 have Hb3:Hid (Below V0.heap.size V0 w3):=Hb2.out.trans (hb3.mono Hb2.out.size)
 have HZ3:Hid (w3.heap[w1.heap.size]?=some (.cells #[Y aS1 U.m.slots.length cS1,Y aH1 U.m.heads.length cH1,Y aF1 U.m.free.length cF1,Y aL1 U.m.locks.length cL1,O J U.m.now,Y aT1 U.ts.length cT1] 28 (0,0))):=(hb3.block _ (lt_of_block HZ2.out)).trans HZ2.out
 have HX3:Hid (w3.heap[w.heap.size]?=some (.cells #[Y aS W.m.slots.length cS,Y aH W.m.heads.length cH,Y aF W.m.free.length cF,Y aL W.m.locks.length cL,O J W.m.now,Y aT W.ts.length cT] 28 (0,0))):=(Hb3.out.block _ (lt_of_block HX0.out)).trans HX0.out
 have HY3:Hid (w3.heap[w.heap.size+1]?=some (.cells #[O J x.task,.bool x.step,.bool x.tick,O J x.c.kind,O J x.c.a,O J x.c.b,O J x.c.time,O J x.c.bk,O J x.c.slot] 34 (0,0))):=(Hb3.out.block _ (lt_of_block HY0.out)).trans HY0.out
 have HV3:Hid (WAns 0 w3 (.agg #[Y aS W.m.slots.length cS,Y aH W.m.heads.length cH,Y aF W.m.free.length cF,Y aL W.m.locks.length cL,O J W.m.now,Y aT W.ts.length cT]) W):=HV0.out.below Hb3.out
 have HU3:Hid (WAns 0 w3 (.agg #[Y aS1 U.m.slots.length cS1,Y aH1 U.m.heads.length cH1,Y aF1 U.m.free.length cF1,Y aL1 U.m.locks.length cL1,O J U.m.now,Y aT1 U.ts.length cT1]) U):=HU2.out.below hb3
 have HB3:Hid (BlW w w3):=show Below _ _ _ from Hb0.out.trans (Hb3.out.mono Hb0.out.size)
 clear hb3 HZ2 HX0 HY0 HV0 HU2 Hb2 Hb3 Hb0 HPl hok
 generalize w1.heap.size=Z at *
 generalize w.heap.size+1=Yq at *
 generalize w.heap.size=X at *
 obtain⟨x0,x1,x2,x3,x4,x5,xs⟩:=Df HX3.out
 obtain⟨z0,z1,z2,z3,z4,z5,zs⟩:=Df HZ3.out
 have hne:((U.ts.length:Int) != (W.ts.length:Int))=false:=by rw[HN1.out];simp
 go_wp2_with fail
 clear x0 x1 x2 x3 x4 x5 xs z0 z1 z2 z3 z4 z5 zs hne
 go_loopw [33] (fun i wr=>∃ k:Nat,k<=W.ts.length/\i=O J k/\Hid (Below w3.heap.size w3 wr)) (fun i _=>W.ts.length - (intOf i).toNat)
 case atStart=>exact⟨0,Nat.zero_le _,rfl,Below.refl _ _⟩
 case round =>
  obtain⟨k,hk,rfl,Hb⟩:=hrel
  by_cases hlt:k<W.ts.length
  ·obtain⟨lt,hK,hI,hc,p,q,rfl,hr⟩:=a5g (HV3.out.below Hb.out) hlt
   have hltU:k<U.ts.length:=by rw[HN1.out];exact hlt
   obtain⟨lu,hKu,hIu,hcu,pu,qu,rfl,hru⟩:=a5g (HU3.out.below Hb.out) hltU
   have HTU:Hid ((k:Int)≠x.task\/x.tick=true->U.ts[k]=W.ts[k]):=fun h=>by
    have:=HN2.out k h
    rw[List.getElem?_eq_getElem hltU,List.getElem?_eq_getElem hlt] at this
    injection this
   generalize W.ts[k]=t at hK hI hr HTU
   generalize U.ts[k]=u at hKu hIu hru HTU
   obtain⟨ot,hot⟩:∃ o:Obj,o=.cells #[.bool t.busy,O J t.f.c.kind,O J t.f.c.a,O J t.f.c.b,O J t.f.c.time,O J t.f.c.bk,O J t.f.c.slot,O J t.f.pl,O J t.f.cur,O J t.f.prev,O J t.f.slot,O J t.f.n,Y lt.aK t.f.keys.length lt.cK,.bool t.f.done,O J t.f.e,Y lt.aH t.held.length lt.cH] 49:=⟨_,rfl⟩
   obtain⟨ou,hou⟩:∃ o:Obj,o=.cells #[.bool u.busy,O J u.f.c.kind,O J u.f.c.a,O J u.f.c.b,O J u.f.c.time,O J u.f.c.bk,O J u.f.c.slot,O J u.f.pl,O J u.f.cur,O J u.f.prev,O J u.f.slot,O J u.f.n,Y lu.aK u.f.keys.length lu.cK,.bool u.f.done,O J u.f.e,Y lu.aH u.held.length lu.cH] 49:=⟨_,rfl⟩
   have hb1:Below wr.heap.size wr (wr.alloc ot):=Aa _ _
   have hb2:Below wr.heap.size wr ((wr.alloc ot).alloc ou):=below_alloc2 _ _ _
   have HT2:Hid (((wr.alloc ot).alloc ou).heap[wr.heap.size]?=some ot):=by show _=_;rw[Below.heap_alloc _ _ _ (by simp),heap_alloc_new]
   have HU2:Hid (((wr.alloc ot).alloc ou).heap[wr.heap.size+1]?=some ou):=by
    have:=heap_alloc_new (wr.alloc ot) ou
    rwa [show (wr.alloc ot).heap.size=wr.heap.size+1 by simp] at this
   have HK2:Hid (KRow ((wr.alloc ot).alloc ou) lt.aK lt.cK t.f.keys):=hK.below hb2
   have HI2:Hid (IRow ((wr.alloc ot).alloc ou) lt.aH lt.cH t.held):=hI.below hb2
   have HKu2:Hid (KRow ((wr.alloc ot).alloc ou) lu.aK lu.cK u.f.keys):=hKu.below hb2
   have HIu2:Hid (IRow ((wr.alloc ot).alloc ou) lu.aH lu.cH u.held):=hIu.below hb2
   have Hb2:Hid (Below w3.heap.size w3 ((wr.alloc ot).alloc ou)):=Hb.out.trans (hb2.mono Hb.out.size)
   have lT:Hid (wr.rangeAt p (q+k*16) (t.enc lt)):=hr
   have lU:Hid ((wr.alloc ot).rangeAt pu (qu+k*16) (u.enc lu)):=Dc hru hb1 (cell_lt (hru 0 _ rfl))
   have hZ:=(Hb.out.block _ (lt_of_block HZ3.out)).trans HZ3.out
   have hZ1:=(hb1.block _ (lt_of_block hZ)).trans hZ
   obtain⟨z0,z1,z2,z3,z4,z5,zs⟩:=Df hZ
   have zlt:=lt_of_block hZ
   have hY:=(Hb.out.block _ (lt_of_block HY3.out)).trans HY3.out
   have ylt:=lt_of_block hY
   have y0:wr.cell? ⟨Yq,0,none⟩=some (O J x.task):=by rw[cell_of_block hY];rfl
   have y2:wr.cell? ⟨Yq,2,none⟩=some (.bool x.tick):=by rw[cell_of_block hY];rfl
   clear hK hI hKu hIu hr hru hb1 hb2 hZ1 hZ hY
   have hlu:(k:Int)<(U.ts.length:Int):=by omega
   obtain⟨V2,hV2⟩:∃ V2,V2=(wr.alloc ot).alloc ou:=⟨_,rfl⟩
   rw[<- hV2] at HT2 HU2 HK2 HI2 HKu2 HIu2 Hb2
   have hY2:=(Hb2.out.block _ (lt_of_block HY3.out)).trans HY3.out
   have v0:V2.cell? ⟨Yq,0,none⟩=some (O J x.task):=by rw[cell_of_block hY2];rfl
   have v2:V2.cell? ⟨Yq,2,none⟩=some (.bool x.tick):=by rw[cell_of_block hY2];rfl
   clear y0 y2 hY2
   subst hot hou
   have HV2:Hid (V2=(wr.alloc (.cells #[.bool t.busy,O J t.f.c.kind,O J t.f.c.a,O J t.f.c.b,O J t.f.c.time,O J t.f.c.bk,O J t.f.c.slot,O J t.f.pl,O J t.f.cur,O J t.f.prev,O J t.f.slot,O J t.f.n,Y lt.aK t.f.keys.length lt.cK,.bool t.f.done,O J t.f.e,Y lt.aH t.held.length lt.cH] 49)).alloc (.cells #[.bool u.busy,O J u.f.c.kind,O J u.f.c.a,O J u.f.c.b,O J u.f.c.time,O J u.f.c.bk,O J u.f.c.slot,O J u.f.pl,O J u.f.cur,O J u.f.prev,O J u.f.slot,O J u.f.n,Y lu.aK u.f.keys.length lu.cK,.bool u.f.done,O J u.f.e,Y lu.aH u.held.length lu.cH] 49)):=hV2
   clear hV2
   by_cases hh:(k:Int)=x.task/\x.tick=false
   ·have e1:((k:Int) != x.task)=false:=by simpa using hh.1
    rw[hh.2] at v2
    clear HTU hh HT2 HU2 HK2 HI2 HKu2 HIu2
    go_wp2_with (first|(have h9:=lT.out;refine wl_T rfl (.tmp 36) rfl rfl h9 ?_;clear h9 lT)|(have h9:=lU.out;refine wl_T rfl (.tmp 41) rfl rfl h9 ?_;clear h9 lU)|(rw[<- HV2.out];clear HV2))
    go_roundw
    case rel=>exact⟨k+1,by omega,by go_num,Hb2⟩
    case measure=>simp[intOf];omega
   ·have hor:(k:Int)≠x.task\/x.tick=true:=by
     by_cases h1:(k:Int)=x.task
     ·right
      cases h2:x.tick
      ·exact absurd ⟨h1,h2⟩ hh
      ·rfl
     ·exact .inl h1
    have hut:=HTU.out hor
    subst hut
    have Hor:Hid ((((k:Int) != x.task)=true)\/(((k:Int) != x.task)=false/\x.tick=true)):=by
     by_cases h1:(k:Int)=x.task
     ·exact .inr ⟨by simpa using h1,hor.resolve_left (fun h=>h h1)⟩
     ·exact .inl (by simpa using h1)
    have HSf:Hid (∀ V,Below V2.heap.size V2 V->Calls Tryz.prog 23 #[.agg #[O J (u.f).c.kind,O J (u.f).c.a,O J (u.f).c.b,O J (u.f).c.time,O J (u.f).c.bk,O J (u.f).c.slot,O J (u.f).pl,O J (u.f).cur,O J (u.f).prev,O J (u.f).slot,O J (u.f).n,Y lu.aK (u.f).keys.length lu.cK,.bool (u.f).done,O J (u.f).e],.agg #[O J (u.f).c.kind,O J (u.f).c.a,O J (u.f).c.b,O J (u.f).c.time,O J (u.f).c.bk,O J (u.f).c.slot,O J (u.f).pl,O J (u.f).cur,O J (u.f).prev,O J (u.f).slot,O J (u.f).n,Y lt.aK (u.f).keys.length lt.cK,.bool (u.f).done,O J (u.f).e]] V fun e w'=>e=.returned (.bool true)/\Below V.heap.size V w'):=fun V hb=>Xo u.f lu.aK lt.aK lu.cK lt.cK V (HKu2.out.below hb) (HK2.out.below hb)
    have HSi:Hid (∀ V,Below V2.heap.size V2 V->Calls Tryz.prog 24 #[Y lu.aH u.held.length lu.cH,Y lt.aH u.held.length lt.cH] V fun e w'=>e=.returned (.bool true)/\Below V.heap.size V w'):=fun V hb=>by
     have h:=Jt lu.aH lt.aH lu.cH lt.cH u.held u.held V (HIu2.out.below hb) (HI2.out.below hb)
     rw[show eqI u.held u.held=true from (a1x _ _).2 rfl] at h
     exact h
    clear HTU hh hor HK2 HI2 HKu2 HIu2
    obtain⟨t0,t1,t2,t3,t4,t5,t6,t7,t8,t9,t10,t11,t12,t13,t14,t15,ts⟩:=taskf HT2.out
    obtain⟨u0,u1,u2,u3,u4,u5,u6,u7,u8,u9,u10,u11,u12,u13,u14,u15,us⟩:=taskf HU2.out
    rcases Hor.out with h1|⟨h1,h2⟩
    rotate_left
    focus
     rw[h2] at v2
     clear h2
     go_wp2_with (first|(have h9:=lT.out;refine wl_T rfl (.tmp 36) rfl rfl h9 ?_;clear h9 lT)|(have h9:=lU.out;refine wl_T rfl (.tmp 41) rfl rfl h9 ?_;clear h9 lU)|(rw[<- HV2.out];clear HV2))
    rotate_left
    focus
     go_wp2_with (first|(have h9:=lT.out;refine wl_T rfl (.tmp 36) rfl rfl h9 ?_;clear h9 lT)|(have h9:=lU.out;refine wl_T rfl (.tmp 41) rfl rfl h9 ?_;clear h9 lU)|(rw[<- HV2.out];clear HV2))
    all_goals
     refine(HSf.out V2 (Below.refl _ _)).mono ?_
     rintro e w7 ⟨rfl,hb7⟩
     have HT7:=(hb7.block _ (lt_of_block HT2.out)).trans HT2.out
     have HU7:=(hb7.block _ (lt_of_block HU2.out)).trans HU2.out
     have Hb7:Hid (Below V2.heap.size V2 w7):=hb7
     clear t0 t1 t2 t3 t4 t5 t6 t7 t8 t9 t10 t11 t12 t13 t14 t15 ts u0 u1 u2 u3 u4 u5 u6 u7 u8 u9 u10 u11 u12 u13 u14 u15 us hb7
     have t15:w7.cell? ⟨wr.heap.size,15,none⟩=some (Y lt.aH u.held.length lt.cH):=by rw[cell_of_block HT7];rfl
     have u15:w7.cell? ⟨wr.heap.size+1,15,none⟩=some (Y lu.aH u.held.length lu.cH):=by rw[cell_of_block HU7];rfl
     clear HT7 HU7
     go_wp2_with fail
     refine(HSi.out w7 Hb7.out).mono ?_
     rintro e w8 ⟨rfl,hb8⟩
     have Hb8:Hid (Below w3.heap.size w3 w8):=Hb2.out.trans ((Hb7.out.trans (hb8.mono Hb7.out.size)).mono Hb2.out.size)
     clear t15 u15 hb8
     go_wp2
     go_roundw
    case rel=>exact⟨k+1,by omega,by go_num,Hb8⟩
    case measure=>simp[intOf];omega
    case rel=>exact⟨k+1,by omega,by go_num,Hb8⟩
    case measure=>simp[intOf];omega
  ·have hkE:k=W.ts.length:=by omega
   have hX:=(Hb.out.block _ (lt_of_block HX3.out)).trans HX3.out
   have hY:=(Hb.out.block _ (lt_of_block HY3.out)).trans HY3.out
   have hZ:=(Hb.out.block _ (lt_of_block HZ3.out)).trans HZ3.out
   obtain⟨x0,x1,x2,x3,x4,x5,xs⟩:=Df hX
   obtain⟨z0,z1,z2,z3,z4,z5,zs⟩:=Df hZ
   have y1:wr.cell? ⟨Yq,1,none⟩=some (.bool x.step):=by rw[cell_of_block hY];rfl
   have y2:wr.cell? ⟨Yq,2,none⟩=some (.bool x.tick):=by rw[cell_of_block hY];rfl
   have HSm:Hid (Calls Tryz.prog 25 #[.agg #[Y aS W.m.slots.length cS,Y aH W.m.heads.length cH,Y aF W.m.free.length cF,Y aL W.m.locks.length cL,O J W.m.now],.agg #[Y aS1 U.m.slots.length cS1,Y aH1 U.m.heads.length cH1,Y aF1 U.m.free.length cF1,Y aL1 U.m.locks.length cL1,O J U.m.now]] wr fun e w'=>∃ b,e=.returned (.bool b)/\(U.m=W.m->b=true)/\Below wr.heap.size wr w'):=by
    obtain⟨lt,A,hi,-⟩:=(HV3.out.below Hb.out).parts
    obtain⟨lu,A1,hi1,-⟩:=(HU3.out.below Hb.out).parts
    refine(same_any W.m U.m _ _ wr 0 0 ⟨_,_,_,_,_,_,_,_,rfl,A,hi⟩ ⟨_,_,_,_,_,_,_,_,rfl,A1,hi1⟩).mono ?_
    rintro e w' ⟨rfl,hb⟩
    exact⟨_,rfl,fun h=>(eqM_iff _ _).2 h.symm,hb⟩
   have Hbe:Hid (Below w.heap.size w wr):=(show Below w.heap.size w w3 from HB3.out).trans (Hb.out.mono (show Below w.heap.size w w3 from HB3.out).size)
   have ew:IntKind.i64.wrap (W.m.now+1)=W.m.now+1:=by rw[IntKind.wrap_i64];omega
   have ew':wrap64 (W.m.now+1)=W.m.now+1:=by unfold wrap64;omega
   clear hX hY hZ HX3 HY3 HZ3 HV3 HU3 hkE HB3 Hb HN2
   cases hT:x.tick
   ·have hq:=HN4.out hT
    have ne:(U.m.now==W.m.now+1)=false:=by rw[hq];simp;omega
    have HU5:Hid (x.step=false->U.m=W.m):=fun h=>HN5.out h hT
    rw[hT] at y2
    clear hT hq HN3 HN4 HN5
    cases hS:x.step
    ·rw[hS] at y1
     have HUe:Hid (U.m=W.m):=HU5.out hS
     clear hS HU5
     go_wp2_with fail
     refine HSm.out.mono ?_
     rintro e w' ⟨b,rfl,hb,hbl⟩
     have hb2:=hb HUe.out
     subst hb2
     have Hbe2:Hid (Below w.heap.size w w'):=Hbe.out.trans (hbl.mono Hbe.out.size)
     clear hb hbl Hbe x0 x1 x2 x3 x4 x5 xs z0 z1 z2 z3 z4 z5 zs y1 y2
     go_wp2
     go_ret
     exact⟨rfl,Hbe2.out⟩
    ·rw[hS] at y1
     clear hS
     go_wp2
     go_ret
     exact⟨rfl,Hbe.out⟩
   ·have hq:=HN3.out hT
    have ne:(U.m.now==W.m.now+1)=true:=by rw[hq];simp
    rw[hT] at y2
    clear hT hq HN3 HN4 HN5
    cases hS:x.step
    ·rw[hS] at y1
     clear hS
     go_wp2_with fail
     refine HSm.out.mono ?_
     rintro e w' ⟨b,rfl,hb,hbl⟩
     have Hbe2:Hid (Below w.heap.size w w'):=Hbe.out.trans (hbl.mono Hbe.out.size)
     have y2':w'.cell? ⟨Yq,2,none⟩=some (.bool true):=by rw[(Ee hbl).1 _ _ (cell_lt y2)];exact y2
     clear hb hbl Hbe x0 x1 x2 x3 x4 x5 xs z0 z1 z2 z3 z4 z5 zs y1 y2
     cases b
     ·go_wp2
      go_ret
      exact⟨rfl,Hbe2.out⟩
     ·go_wp2
      go_ret
      exact⟨rfl,Hbe2.out⟩
    ·rw[hS] at y1
     clear hS
     go_wp2
     go_ret
     exact⟨rfl,Hbe.out⟩
end
end Go.Proofs.YthhgoenomehobaaGreat.mm
