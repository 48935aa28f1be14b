/- Parts. -/
import Derived.Test.YthhgoenomehobaaGreatP10
import Derived.Laws.AppendOwnNone
import Derived.Test.YthhgoenomehobaaGreatP07
namespace Go.Proofs.YthhgoenomehobaaGreat.mm
open Tryz renaming underlying23 → fA, prog → Pg
open Value renaming slice → eX, int → O, slice → Y
open List renaming toArray → eG, replicate → aQ, range_succ → gK
open World renaming size_setCell → eQ, ownsRow_nil → eU
open Go renaming Value → dU, Calls → aI, wpList_append_own_at → gB, info_parts → gG, madeCells → gI, maxLen → gJ, World → Wq
open Nat renaming le_refl → aC, zero_le → aG
open Tryz
set_option maxRecDepth 100000
set_option linter.unusedVariables false
open IntKind renaming i64 → J
open ChangeShapes WideShapes ChangeAt RowKit Joins
set_option maxHeartbeats 0
variable (n k:Nat)(a b c d:Int)(w:Wq){M:Mm}(B gS nS j cS:Nat)(hv fv lv nv:dU)(r:Int)
section
open Deep
variable {Xb:Ex}
theorem b1r(hB:w.heap[B]?=some (.cells (eG (Y (some ⟨gS,0,none⟩) nS cS :: hv :: fv :: lv :: nv :: Xb.rs)) Xb.rt (0,0)))(hj:j<nS)(hS:nS<=9223372036854775807)(c0:w.cell? ⟨gS,j*6,none⟩=some (O J r))(hr:r<=0\/1000<=r) :
  aI Pg 116 #[Ae B,O J j] w fun e w'=>e=.returned (.bool false)/\w=w':=by
 unfold Ae
 obtain⟨q0,q1,q2,q3,q4,f0,f1,f2,f3,f4,qs⟩:=Aj hB
 clear hB
 by_cases h0:r<=0
 ·go_enter func116,ntmps116
  go_wp2
  go_ret
  exact⟨rfl,rfl⟩
 ·have h1:1000<=r:=by omega
  have h2:0<r:=by omega
  go_enter func116,ntmps116
  go_wp2
  go_ret
  exact⟨rfl,rfl⟩
theorem a8e(hB:w.heap[B]?=some (.cells (eG (Y (some ⟨gS,0,none⟩) nS cS :: hv :: fv :: lv :: nv :: Xb.rs)) Xb.rt (0,0)))(hj:j<nS)(hS:nS<=9223372036854775807)(c0:w.cell? ⟨gS,j*6,none⟩=some (O J r))(f0:w.frozen? ⟨gS,j*6,none⟩=false)(h0:0<r)(h1:r<1000) :
  aI Pg 116 #[Ae B,O J j] w fun e w'=>e=.returned (.bool true)/\w.setCell ⟨gS,j*6,none⟩ (O J (r+1))=w':=by
 unfold Ae
 obtain⟨q0,q1,q2,q3,q4,-,-,-,-,-,qs⟩:=Aj hB
 clear hB
 go_enter func116,ntmps116
 go_wp2
 go_ret
 exact⟨rfl,rfl⟩
theorem a3y(M:Mm)(w:Wq)(B lo:Nat)(aS aH aF aL:Option Addr)(cS cH cF cL:Nat)(i:Int)(m:Mine Xb w B lo aS aH aF aL cS cH cF cL M)(h0:0<=i)(h1:i<M.s.length)(hr:Eg M i<=0\/1000<=Eg M i) :
  aI Pg 116 #[Ae B,O J i] w fun e w'=>e=.returned (.bool false)/\w=w':=by
 unfold Ae
 obtain⟨j,rfl⟩:∃ j:Nat,i=j:=⟨i.toNat,by omega⟩
 have hj:j<M.s.length:=by omega
 have m1:=m.m1
 obtain⟨gS,rfl,-,-,-,-⟩:=C9 m.c.s (by omega)
 rw[L9 M j hj] at hr
 exact b1r w B gS _ j cS _ _ _ _ _ m.box hj (by omega) (Du m.c.s hj).1 hr
theorem a8i(hB:w.heap[B]?=some (.cells (eG (Y (some ⟨gS,0,none⟩) nS cS :: hv :: fv :: lv :: nv :: Xb.rs)) Xb.rt (0,0)))(hj:j<nS)(hS:nS<=9223372036854775807)(c0:w.cell? ⟨gS,j*6,none⟩=some (O J 0)) :
  aI Pg 72 #[Ae B,O J j] w fun e w'=>e=.returned (.tuple #[])/\w=w':=by
 unfold Ae
 obtain⟨q0,q1,q2,q3,q4,f0,f1,f2,f3,f4,qs⟩:=Aj hB
 clear hB
 go_enter func72,ntmps72
 go_wp2
 go_end0
 exact⟨rfl,rfl⟩
theorem a8h(hB:w.heap[B]?=some (.cells (eG (Y (some ⟨gS,0,none⟩) nS cS :: hv :: fv :: lv :: nv :: Xb.rs)) Xb.rt (0,0)))(hj:j<nS)(hS:nS<=9223372036854775807)(c0:w.cell? ⟨gS,j*6,none⟩=some (O J r))(f0:w.frozen? ⟨gS,j*6,none⟩=false)(h0:1<r)(h1:r<=1000) :
  aI Pg 72 #[Ae B,O J j] w fun e w'=>e=.returned (.tuple #[])/\w.setCell ⟨gS,j*6,none⟩ (O J (r - 1))=w':=by
 unfold Ae
 obtain⟨q0,q1,q2,q3,q4,-,-,-,-,-,qs⟩:=Aj hB
 clear hB
 have e0:(r==0)=false:=by rw[beq_eq_false_iff_ne];omega
 have e1:(r==1)=false:=by rw[beq_eq_false_iff_ne];omega
 go_enter func72,ntmps72
 go_wp2
 go_end0
 exact⟨rfl,rfl⟩
theorem a5a{P:Program}(w:Wq){bn:Array Oper}{nz:List Oper}{o:Oper}{a:Act}{Q:Exit->Act->Wq->Prop}(rY:o.guard=none)(s x:Operand)(t:TypeId)
  (ho:o.op=.call { callee:=.builtin .append,args:=#[s,x],argTypes:=#[t,t] })
  (base:Nat) (e:TypeId) (i:TypeInfo) (z:dU) (size bytes:Nat) (ht:P.underlying t=some (.slice e)) (hi:P.info? e=some i) (hz:i.zero=some z)
  (vk:i.size=size) (vG:i.bytes=bytes) (NK:z.cells.size=size) (qg:0<size)
  (v:dU) (n:Nat) (xs:List dU) (hs:a.eval s=v) (jv:w.ownsRow base e size v n xs)
  (ao:Option Addr) (m c:Nat) (jw:List dU) (hx:a.eval x=Y ao m c) (hl:jw.length=m*size) (hn:ao=none->m=0/\c=0) (sQ:∀ ad,ao=some ad->∀ j u,jw[j]?=some u->w.cell? (ad.add j)=some u) (h1:∀ u∈jw,u.oneCell'=true)
  (RF:n+m<=gJ) (uz:(n+m)*bytes<=140737488355328) (vW:base<=w.heap.size)
  (h:∀ v' w',w'.ownsRow base e size v' (n+m) (xs++jw)->w.grownBy w' v.ownBlock->(v'.ownBlock=v.ownBlock\/v'.ownBlock=some w.heap.size)->wpList P bn Q nz (a.put o.dst v') w') :
  wpList P bn Q (o :: nz) a w:=by
 cases ao with
 | some ad=>exact gB w rY s x t ho base e i z size bytes ht hi hz vk vG NK qg v n xs hs jv ad m c jw hx hl (sQ ad rfl) h1 RF uz vW fun v' w' a1 a2 _ a4=>h v' w' a1 a2 a4
 | none =>
  obtain⟨rfl,rfl⟩:=hn rfl
  have zf:jw=[]:=List.eq_nil_of_length_eq_zero (by rw[hl,Nat.zero_mul])
  subst zf
  have hr:=run_append_owned_none (P:=P) w base t o.type e i size ht hi v n xs jv
  refine wpList_plain rY fun K hK=>?_
  unfold Oper.wp execOp
  simp only[ho,resolve,invoke,builtin,Sem.run_bind,Sem.run_pure,Result.andThen_ok,List.map_toArray,List.map_cons,List.map_nil,hs,hx,hr]
  refine hK _ _ (h v w ?_ ⟨rfl,rfl,rfl,aC _,fun _ _ _=>rfl⟩ (.inl rfl))
  rw[Nat.add_zero,List.append_nil]
  exact jv
theorem a5q(e:TypeId)(size lo n:Nat)(hn:n=w.heap.size)(h:lo<=w.heap.size):(w.alloc (.cells #[] e)).ownsRow lo e size (Y (some ⟨n,0,none⟩) 0 0) 0 []:=by
 subst hn
 exact World.ownsRow_lit w #[] 0 h (aG _) (by simp)
theorem a8g(lo cS cF:Nat)(aF:Option Addr)(F:List Int)(hv lv nv:dU)(hB:w.heap[B]?=some (.cells (eG (Y (some ⟨gS,0,none⟩) nS cS :: hv :: Y aF F.length cF :: lv :: nv :: Xb.rs)) Xb.rt (0,0)))(hj:j<nS)(hS:nS<=9223372036854775807)(c0:w.cell? ⟨gS,j*6,none⟩=some (O J 1))(f0:w.frozen? ⟨gS,j*6,none⟩=false)(iw:B≠gS)(hO:Dk (w.setCell ⟨gS,j*6,none⟩ (O J 0)) aF cF F)(hm:F.length*8<=140737488350000) :
  aI Pg 72 #[Ae B,O J j] w fun e w'=>e=.returned (.tuple #[])/\∃ a' c' w1,Below w.heap.size (w.setCell ⟨gS,j*6,none⟩ (O J 0)) w1 /\
   w1.ownsRow w.heap.size 3 1 (Y a' (F.length+1) c') (F.length+1) (encI (F ++ [(j:Int)]))/\w1.setCell ⟨B,2,none⟩ (Y a' (F.length+1) c')=w':=by
 unfold Ae
 obtain⟨q0,q1,q2,q3,q4,-,-,f2,-,-,qs⟩:=Aj hB
 obtain⟨i0,hi,ng,qj,pq⟩:=gG iI
 have hne':(⟨gS,j*6,none⟩:Addr) ≠ ⟨B,2,none⟩:=by intro h;injection h with h;omega
 have hBs:(w.setCell ⟨gS,j*6,none⟩ (O J 0)).heap[B]?=_:=(Below.heap_setCell _ _ _ _ (by dsimp only;exact iw)).trans hB
 have HO:Qi (Dk (w.setCell ⟨gS,j*6,none⟩ (O J 0)) aF cF F):=hO
 have HBs:Qi _:=hBs
 have YS:(w.setCell ⟨gS,j*6,none⟩ (O J 0)).heap.size=w.heap.size:=eQ ..
 have PH:Qi _:=YS
 have HB:Qi _:=hB
 clear hB hO hBs YS
 have HN:Qi (aF=none->F.length=0/\cF=0):=fun h=>⟨by have:=HO.o.nil h;have:=HO.o.le;omega,HO.o.nil h⟩
 have WZ:Qi (∀ ad,aF=some ad->∀ j' u,(encI F)[j']?=some u->((w.setCell ⟨gS,j*6,none⟩ (O J 0)).alloc (.cells #[] 3)).cell? (ad.add j')=some u):=(HO.o.below (A7 _ _)).src
 have MW:Qi (((w.setCell ⟨gS,j*6,none⟩ (O J 0)).alloc (.cells #[] 3)).ownsRow w.heap.size 3 1 (Y (some ⟨w.heap.size,0,none⟩) 0 0) 0 []):=a5q _ 3 1 w.heap.size _ PH.o.symm (Nat.le_of_eq PH.o.symm)
 have hL63:0+F.length<=gJ:=by unfold gJ;omega
 have HLB:Qi (w.heap.size<=((w.setCell ⟨gS,j*6,none⟩ (O J 0)).alloc (.cells #[] 3)).heap.size):=by show _<=_;simp
 have HE:Qi ((encI F).length=F.length*1):=by show _=_;rw[Dz,Nat.mul_one]
 go_enter func72,ntmps72
 go_wp2_with (first
  | (at_builtin;(refine a5a _ rfl (.tmp 35) (.tmp 39) 23 rfl w.heap.size 3 i0 (O J 0) 1 8 fA hi ng qj pq rfl (by first|decide|exact Ex.ne _ _ (by decide)) (Y (some ⟨w.heap.size,0,none⟩) 0 0) 0 [] rfl MW.o aF F.length cF (encI F) rfl HE.o HN.o WZ.o (Hg F) hL63 (by omega) HLB.o ?_;intro v1 w1 ou mi UJ;rw[Nat.zero_add,List.nil_append] at ou;obtain⟨a1,c1,rfl⟩:=Bg ou;have BQ:Qi (w1.ownsRow w.heap.size 3 1 (Y a1 F.length c1) F.length (encI F)):=ou;have XY:Qi (((w.setCell ⟨gS,j*6,none⟩ (O J 0)).alloc (.cells #[] 3)).grownBy w1 (some w.heap.size)):=mi;clear ou mi UJ;have tN:Qi (w.heap.size+1<=w1.heap.size):=(by have:=XY.o.size;simp at this;exact this)))
  | (at_builtin;(refine gB _ rfl (.tmp 40) (.tmp 42) 23 rfl w.heap.size 3 i0 (O J 0) 1 8 fA hi ng qj pq rfl (by first|decide|exact Ex.ne _ _ (by decide)) (Y a1 F.length c1) F.length (encI F) rfl (BQ.o.alloc _) ⟨w1.heap.size,0,none⟩ 1 1 [O J j] rfl rfl (Vt _ _ _ _ rfl) (by intro u hu;simp at hu;subst hu;rfl) (by unfold gJ;omega) (by omega) (by simp;have:=tN.o;omega) ?_;intro v2 w2 lu qf _ ji;obtain⟨g2,c2,rfl⟩:=ownsRow_form lu (by omega);have uw:Qi (w2.ownsRow w.heap.size 3 1 (Y (some ⟨g2,0,none⟩) (F.length+1) c2) (F.length+1) (encI F ++ [O J j])):=lu;have rM:Qi ((w1.alloc (.cells #[O J j] 3)).grownBy w2 (eX a1 F.length c1).ownBlock):=qf;clear lu qf ji;have vI:Qi (Below w.heap.size (w.setCell ⟨gS,j*6,none⟩ (O J 0)) w2):=(((((Below.refl _ _).alloc (by rw[PH.o];exact aC _) _).grown XY.o (by simp) (fun k h=>by cases h;exact aC _)).alloc (by have:=tN.o;omega) _).grown rM.o (by simp;have:=tN.o;omega) (fun k h=>(BQ.o.lt k h).1));obtain⟨r2,r3⟩:w2.cell? ⟨B,2,none⟩=some (Y aF F.length cF)/\w2.frozen? ⟨B,2,none⟩=false:=(by obtain⟨-,-,k2,-,-,-,-,l2,-,-,-⟩:=Aj ((vI.o.block B qs).trans HBs.o);exact⟨k2,l2⟩))))
 go_end0
 refine⟨rfl,_,_,w2,vI.o,?_,rfl⟩
 have:=uw.o
 rwa [show encI F ++ [O J (j:Int)]=encI (F ++ [(j:Int)]) by simp[encI]] at this
theorem b2l{w W1 w2:Wq}{ob:Obj}(hb:Below w.heap.size w W1)(hk:W1.heap[w.heap.size]?=some ob)(hz:W1.heap.size=w.heap.size+1)(hg:((W1.alloc (.cells #[] 3)).drew).grownBy w2 (some W1.heap.size)) :
  Below w.heap.size w w2/\w.heap.size<w2.heap.size/\w2.heap[w.heap.size]?=some ob:=by
 have h1:Below W1.heap.size W1 w2:=((A7 W1 (.cells #[] 3)).drew).grown hg (by simp) (fun k h=>by cases h;exact aC _)
 refine⟨hb.trans (h1.mono (by omega)),by have:=h1.size;omega,(h1.block _ (by omega)).trans hk⟩
theorem a4r{w w2:Wq}{gS j:Nat}{r a b v nx:Int}{i:Bool}(hb:Below w.heap.size w w2)(l:gS<w.heap.size)
  (c0:w.cell? ⟨gS,j*6,none⟩=some (O J r)) (c1:w.cell? ⟨gS,j*6+1,none⟩=some (O J a)) (c2:w.cell? ⟨gS,j*6+2,none⟩=some (O J b)) (c3:w.cell? ⟨gS,j*6+3,none⟩=some (O J v)) (c4:w.cell? ⟨gS,j*6+4,none⟩=some (.bool i)) (c5:w.cell? ⟨gS,j*6+5,none⟩=some (O J nx))
  (xR:∀ q,w.frozen? ⟨gS,q,none⟩=false):w2.cell? ⟨gS,j*6,none⟩=some (O J r)/\w2.cell? ⟨gS,j*6+1,none⟩=some (O J a)/\w2.cell? ⟨gS,j*6+2,none⟩=some (O J b)/\w2.cell? ⟨gS,j*6+3,none⟩=some (O J v)/\w2.cell? ⟨gS,j*6+4,none⟩=some (.bool i)/\w2.cell? ⟨gS,j*6+5,none⟩=some (O J nx)/\∀ q,w2.frozen? ⟨gS,q,none⟩=false:=by
 obtain⟨q,f⟩:=Ce hb
 exact⟨(q _ _ l).trans c0,(q _ _ l).trans c1,(q _ _ l).trans c2,(q _ _ l).trans c3,(q _ _ l).trans c4,(q _ _ l).trans c5,fun x=>(f _ _ l).trans (xR x)⟩
end
section
variable {Xb:Ex}
def Ac(B:Nat)(aS aH aF aL:Option Addr)(k:Nat):Prop :=
 k=B\/(∃ ad,aS=some ad/\ad.block=k)\/(∃ ad,aH=some ad/\ad.block=k)\/(∃ ad,aF=some ad/\ad.block=k)\/(∃ ad,aL=some ad/\ad.block=k)
structure Fine(w w':Wq)(Z:Nat->Prop):Prop where
 os:w'.os=w.os
 tape:w'.tape=w.tape
 output:w'.output=w.output
 size:w.heap.size<=w'.heap.size
 block:∀ k,k<w.heap.size->¬ Z k->w'.heap[k]?=w.heap[k]?
def Up(w:Wq)(Z:Nat->Prop)(k:Nat):Prop:=Z k\/w.heap.size<=k
theorem Fine.refl(Z:Nat->Prop):Fine w w Z:=⟨rfl,rfl,rfl,aC _,fun _ _ _=>rfl⟩
theorem Fine.of_below{w w':Wq}(Z:Nat->Prop)(hb:Below w.heap.size w w'):Fine w w' Z:=⟨hb.os,hb.tape,hb.output,hb.size,fun k h _=>hb.block k h⟩
theorem Fine.trans{w w1 w2:Wq}{Z Z':Nat->Prop}(h:Fine w w1 Z)(h':Fine w1 w2 Z')(hz:∀ k,k<w.heap.size->Z' k->Z k):Fine w w2 Z :=
 ⟨h'.os.trans h.os,h'.tape.trans h.tape,h'.output.trans h.output,Nat.le_trans h.size h'.size,fun k h1 h2=>(h'.block k (Nat.lt_of_lt_of_le h1 h.size) (fun h3=>h2 (hz k h1 h3))).trans (h.block k h1 h2)⟩
theorem Fine.go{w w1 w2:Wq}{Z:Nat->Prop}(h:Fine w w1 Z)(h':Fine w1 w2 (Up w Z)):Fine w w2 Z :=
 h.trans h' fun k h1 h2=>h2.elim id (fun h3=>by omega)
theorem Fine.below{w w1 w2:Wq}{Z:Nat->Prop}(h:Fine w w1 Z)(hb:Below w1.heap.size w1 w2):Fine w w2 Z :=
 h.trans (.of_below Z hb) fun _ _ h=>h
theorem Fine.set{w w1:Wq}{Z:Nat->Prop}{k:Nat}(h:Fine w w1 Z)(hk:Z k\/w.heap.size<=k)(j:Nat)(v:dU):Fine w (w1.setCell ⟨k,j,none⟩ v) Z :=
 ⟨h.os,h.tape,h.output,by rw[eQ];exact h.size,fun i h1 h2=>by
  have iw:i≠k:=by rintro rfl;exact hk.elim h2 (fun h3=>by omega)
  rw[Below.heap_setCell _ _ _ _ (by dsimp only;exact iw)]
  exact h.block i h1 h2⟩
theorem Fine.down{w w1:Wq}{Z:Nat->Prop}(h:Fine w w1 Z){n:Nat}(hn:n<=w.heap.size)(hz:∀ k,Z k->n<=k):Below n w w1 :=
 ⟨h.os,h.tape,h.output,h.size,fun k hk=>h.block k (by omega) (fun h3=>by have:=hz k h3;omega)⟩
theorem Fine.mono{w w1:Wq}{Z Z':Nat->Prop}(h:Fine w w1 Z)(hz:∀ k,Z k->Z' k):Fine w w1 Z':=⟨h.os,h.tape,h.output,h.size,fun k h1 h2=>h.block k h1 (fun h3=>h2 (hz k h3))⟩
theorem Cb{w w':Wq}{lo size n:Nat}{e:TypeId}{v:dU}{xs:List dU}(h:w.ownsRow lo e size v n xs)(hk:∀ g,v.ownBlock=some g->w'.heap[g]?=w.heap[g]?):w'.ownsRow lo e size v n xs:=by
 refine⟨h.1,?_⟩
 rcases h.2 with h1|⟨g,bg,sU,rfl,hg,hb,nz⟩
 ·exact .inl h1
 ·exact .inr ⟨g,bg,sU,rfl,hg,(hk g rfl).trans hb,nz⟩
def Has(Xb:Ex)(w:Wq)(B lo:Nat)(Z:Nat->Prop)(M:Mm):Prop :=
 ∃ aS aH aF aL cS cH cF cL,Mine Xb w B lo aS aH aF aL cS cH cF cL M/\∀ k,Ac B aS aH aF aL k->Z k
theorem Tc{aS:Option Addr}{n c g:Nat}(h:(eX aS n c).ownBlock=some g):∃ ad,aS=some ad/\ad.block=g:=by
 cases aS with
 | none=>cases h
 | some ad=>exact⟨ad,rfl,by injection h⟩
theorem Mine.same{w w':Wq}{B lo:Nat}{aS aH aF aL:Option Addr}{cS cH cF cL:Nat}{M:Mm}(m:Mine Xb w B lo aS aH aF aL cS cH cF cL M)(hz:w.heap.size<=w'.heap.size)
  (hk:∀ k,k<w.heap.size->Ac B aS aH aF aL k->w'.heap[k]?=w.heap[k]?):Mine Xb w' B lo aS aH aF aL cS cH cF cL M:=by
 obtain⟨hB,⟨s,h,f,l,hf,hl,fl,lz⟩,m1,m2,m3,m4⟩:=m
 refine⟨(hk B (lt_of_block hB) (.inl rfl)).trans hB,⟨?_,?_,?_,?_,hf,hl,fl,Nat.le_trans lz hz⟩,m1,m2,m3,m4⟩
 ·exact Cb s fun g hg=>hk g (s.lt g hg).2 (.inr (.inl (Tc hg)))
 ·exact Cb h fun g hg=>hk g (h.lt g hg).2 (.inr (.inr (.inl (Tc hg))))
 ·exact Cb f fun g hg=>hk g (f.lt g hg).2 (.inr (.inr (.inr (.inl (Tc hg)))))
 ·exact Cb l fun g hg=>hk g (l.lt g hg).2 (.inr (.inr (.inr (.inr (Tc hg)))))
theorem Has.same{w w':Wq}{B lo:Nat}{Z:Nat->Prop}{M:Mm}(h:Has Xb w B lo Z M)(hz:w.heap.size<=w'.heap.size)(hk:∀ k,k<w.heap.size->Z k->w'.heap[k]?=w.heap[k]?):Has Xb w' B lo Z M:=by
 obtain⟨aS,aH,aF,aL,cS,cH,cF,cL,m,hf⟩:=h
 exact⟨aS,aH,aF,aL,cS,cH,cF,cL,m.same hz (fun k h1 h2=>hk k h1 (hf k h2)),hf⟩
theorem Has.below{w w':Wq}{B lo:Nat}{Z:Nat->Prop}{M:Mm}(h:Has Xb w B lo Z M)(hb:Below w.heap.size w w'):Has Xb w' B lo Z M:=h.same hb.size fun k h1 _=>hb.block k h1
theorem Has.fine{w w':Wq}{B lo:Nat}{Z Z':Nat->Prop}{M:Mm}(h:Has Xb w B lo Z M)(hf:Fine w w' Z')(hd:∀ k,k<w.heap.size->Z k->¬ Z' k):Has Xb w' B lo Z M:=h.same hf.size fun k h1 h2=>hf.block k h1 (hd k h1 h2)
theorem Has.mono{w:Wq}{B lo:Nat}{Z Z':Nat->Prop}{M:Mm}(h:Has Xb w B lo Z M)(hz:∀ k,k<w.heap.size->Z k->Z' k):Has Xb w B lo Z' M:=by
 obtain⟨aS,aH,aF,aL,cS,cH,cF,cL,m,hf⟩:=h
 refine⟨aS,aH,aF,aL,cS,cH,cF,cL,m,fun k hk=>hz k ?_ (hf k hk)⟩
 rcases hk with rfl|⟨ad,rfl,rfl⟩|⟨ad,rfl,rfl⟩|⟨ad,rfl,rfl⟩|⟨ad,rfl,rfl⟩
 ·exact lt_of_block m.box
 ·exact(m.c.s.lt _ rfl).2
 ·exact(m.c.h.lt _ rfl).2
 ·exact(m.c.f.lt _ rfl).2
 ·exact(m.c.l.lt _ rfl).2
theorem Has.up{w:Wq}{B lo:Nat}{Z:Nat->Prop}{M:Mm}(h:Has Xb w B lo Z M):Has Xb w B lo (Up w Z) M:=h.mono fun _ _ h=>.inl h
theorem Tf(h:Ok M):M.f.length<=12:=by
 have h1:=b5t M.s.length M.f h.nodup (fun a ha=>by
  have:=(Qy _ _).1 (h.f a ha)
  exact⟨this.1,this.2.1⟩)
 have:=h.ns
 omega
theorem Ud{B:Nat}{aS aH aF aL aF':Option Addr}{Z:Nat->Prop}{n:Nat}(hf:∀ k,Ac B aS aH aF aL k->Z k)(hn:∀ ad,aF'=some ad->n<=ad.block):∀ k,Ac B aS aH aF' aL k->Z k\/n<=k:=by
 rintro k (rfl|h|h|⟨ad,e,rfl⟩|h)
 ·exact .inl (hf _ (.inl rfl))
 ·exact .inl (hf _ (.inr (.inl h)))
 ·exact .inl (hf _ (.inr (.inr (.inl h))))
 ·exact .inr (hn ad e)
 ·exact .inl (hf _ (.inr (.inr (.inr (.inr h)))))
theorem a7b{w:Wq}{B lo:Nat}{Z:Nat->Prop}{i:Int}(H:Has Xb w B lo Z M)(hM:Ok M)(hi:Dp M i=true) :
  aI Pg 201 #[Ae B,O J i] w fun e w'=>e=.returned (.bool (Si M i))/\Has Xb w' B lo (Up w Z) (holdN M i)/\Fine w w' Z:=by
 unfold Ae
 have hr:=Qc hM hi
 obtain⟨i0,i1⟩:=Ez.1 hi
 have H':=H
 obtain⟨aS,aH,aF,aL,cS,cH,cF,cL,m,hf⟩:=H
 by_cases hc:Si M i=true
 ·have wV:=Sj.1 hc
  obtain⟨j,rfl⟩:∃ j:Nat,i=j:=⟨i.toNat,by omega⟩
  have hj:j<M.s.length:=by omega
  obtain⟨gS,rfl,oS,-,-,-⟩:=C9 m.c.s (by omega)
  have CE:=L9 M j hj
  rw[CE] at wV
  obtain⟨c0,-,-,-,-,-,fz⟩:=Du m.c.s hj
  refine(b0a w B gS _ j cS _ _ _ _ _ m.box hj c0 (fz _) wV.1 wV.2).mono ?_
  rintro e w' ⟨rfl,rfl⟩
  have mt:=turned m hj (M.s[j].refs+1)
  have e1:holdN M j=a9z M j:=by unfold holdN;rw[af hc]
  rw[e1,hc]
  rw[<- CE] at mt ⊢
  exact⟨rfl,⟨_,_,_,_,_,_,_,_,mt,fun k hk=>.inl (hf k hk)⟩,(Fine.refl w Z).set (.inl (hf gS (.inr (.inl ⟨_,rfl,rfl⟩)))) _ _⟩
 ·have hc0:Si M i=false:=by simpa using hc
  have hn:¬ (0<Eg M i/\Eg M i<1000):=fun h=>hc (Sj.2 h)
  refine(a7a M w B lo aS aH aF aL cS cH cF cL i m i0 i1 (by omega)).mono ?_
  rintro e w' ⟨rfl,rfl⟩
  have e1:holdN M i=M:=by unfold holdN;rw[ae hc]
  rw[e1,hc0]
  exact⟨rfl,H'.up,.refl _ _⟩
theorem a3z{w:Wq}{B lo:Nat}{Z:Nat->Prop}{i:Int}(H:Has Xb w B lo Z M)(hM:Ok M)(hi:Dp M i=true) :
  aI Pg 116 #[Ae B,O J i] w fun e w'=>e=.returned (.bool (Si M i))/\Has Xb w' B lo (Up w Z) (holdN M i)/\Fine w w' Z:=by
 unfold Ae
 have hr:=Qc hM hi
 obtain⟨i0,i1⟩:=Ez.1 hi
 have H':=H
 obtain⟨aS,aH,aF,aL,cS,cH,cF,cL,m,hf⟩:=H
 have m1:=m.m1
 by_cases hc:Si M i=true
 ·have wV:=Sj.1 hc
  obtain⟨j,rfl⟩:∃ j:Nat,i=j:=⟨i.toNat,by omega⟩
  have hj:j<M.s.length:=by omega
  obtain⟨gS,rfl,oS,-,-,-⟩:=C9 m.c.s (by omega)
  have CE:=L9 M j hj
  rw[CE] at wV
  obtain⟨c0,-,-,-,-,-,fz⟩:=Du m.c.s hj
  refine(a8e w B gS _ j cS _ _ _ _ _ m.box hj (by omega) c0 (fz _) wV.1 wV.2).mono ?_
  rintro e w' ⟨rfl,rfl⟩
  have mt:=turned m hj (M.s[j].refs+1)
  have e1:holdN M j=a9z M j:=by unfold holdN;rw[af hc]
  rw[e1,hc]
  rw[<- CE] at mt ⊢
  exact⟨rfl,⟨_,_,_,_,_,_,_,_,mt,fun k hk=>.inl (hf k hk)⟩,(Fine.refl w Z).set (.inl (hf gS (.inr (.inl ⟨_,rfl,rfl⟩)))) _ _⟩
 ·have hc0:Si M i=false:=by simpa using hc
  have hn:¬ (0<Eg M i/\Eg M i<1000):=fun h=>hc (Sj.2 h)
  refine(a3y M w B lo aS aH aF aL cS cH cF cL i m i0 i1 (by omega)).mono ?_
  rintro e w' ⟨rfl,rfl⟩
  have e1:holdN M i=M:=by unfold holdN;rw[ae hc]
  rw[e1,hc0]
  exact⟨rfl,H'.up,.refl _ _⟩
theorem a1u{w:Wq}{B lo:Nat}{Z:Nat->Prop}{i:Int}(H:Has Xb w B lo Z M)(hM:Ok M)(hi:Dp M i=true) :
  aI Pg 197 #[Ae B,O J i] w fun e w'=>e=.returned (.bool (decide (Eg M i≠0)))/\Has Xb w' B lo (Up w Z) (Ff M i)/\Fine w w' Z:=by
 unfold Ae
 have hr:=Qc hM hi
 have BG:=Tf hM
 obtain⟨i0,i1⟩:=Ez.1 hi
 have H':=H
 obtain⟨aS,aH,aF,aL,cS,cH,cF,cL,m,hf⟩:=H
 by_cases h0:Eg M i=0
 ·refine(b1e M w B lo aS aH aF aL cS cH cF cL i m i0 i1 h0).mono ?_
  rintro e w' ⟨rfl,rfl⟩
  have e1:Ff M i=M:=by unfold Ff;rw[af h0]
  rw[e1]
  exact⟨by simp[h0],H'.up,.refl _ _⟩
 have ed:decide (Eg M i≠0)=true:=by simp[h0]
 have e0:Ff M i=Vj M i:=by unfold Ff;rw[ae h0]
 rw[ed,e0]
 obtain⟨j,rfl⟩:∃ j:Nat,i=j:=⟨i.toNat,by omega⟩
 have hj:j<M.s.length:=by omega
 obtain⟨gS,rfl,oS,-,-,-⟩:=C9 m.c.s (by omega)
 have hZ:Z gS:=hf gS (.inr (.inl ⟨_,rfl,rfl⟩))
 have CE:=L9 M j hj
 obtain⟨c0,-,-,-,-,-,fz⟩:=Du m.c.s hj
 by_cases hl:Eg M j=1
 ·rw[<- CE,hl] at c0
  have mt:=turned m hj 0
  refine(b1f w B gS _ j cS cF aF M.f _ _ _ m.box hj c0 (fz _) m.b0p mt.at.f (by omega)).mono ?_
  rintro e w' ⟨rfl,a',c',w1,hb,ho,rfl⟩
  have e1:Vj M j = { M with s:=Jv M j 0,f:=M.f ++ [(j:Int)] }:=by simp[Vj,hl]
  have jb:(M.f ++ [(j:Int)]).length=M.f.length+1:=by simp
  rw[e1]
  have hz:(w.setCell ⟨gS,j*6,none⟩ (O J 0)).heap.size=w.heap.size:=eQ ..
  have uN:=Ri ho
  rw[<- hz] at hb ho
  have mg:=mt.Df (M.f ++ [(j:Int)]) (by rw[jb];omega) hb jb ho
  refine⟨rfl,⟨_,_,_,_,_,_,_,_,mg,Ud hf uN⟩,?_⟩
  exact(((Fine.refl w Z).set (.inl hZ) (j*6) (O J 0)).below hb).set (.inl (hf B (.inl rfl))) _ _
 ·have FY:1<M.s[j].refs:=by omega
  refine(b1g w B gS _ j cS _ _ _ _ _ m.box hj c0 (fz _) FY (by omega)).mono ?_
  rintro e w' ⟨rfl,rfl⟩
  have e1:Vj M j = { M with s:=Jv M j (Eg M j - 1) }:=by simp[Vj,hl]
  rw[e1]
  have mt:=turned m hj (M.s[j].refs - 1)
  rw[<- CE] at mt ⊢
  exact⟨rfl,⟨_,_,_,_,_,_,_,_,mt,fun k hk=>.inl (hf k hk)⟩,(Fine.refl w Z).set (.inl hZ) _ _⟩
theorem Nl{w:Wq}{B lo:Nat}{Z:Nat->Prop}{i:Int}(H:Has Xb w B lo Z M)(hM:Ok M)(hi:Dp M i=true) :
  aI Pg 72 #[Ae B,O J i] w fun e w'=>e=.returned (.tuple #[])/\Has Xb w' B lo (Up w Z) (Ff M i)/\Fine w w' Z:=by
 unfold Ae
 have hr:=Qc hM hi
 have BG:=Tf hM
 obtain⟨i0,i1⟩:=Ez.1 hi
 have H':=H
 obtain⟨aS,aH,aF,aL,cS,cH,cF,cL,m,hf⟩:=H
 have m1:=m.m1
 obtain⟨j,rfl⟩:∃ j:Nat,i=j:=⟨i.toNat,by omega⟩
 have hj:j<M.s.length:=by omega
 obtain⟨gS,rfl,oS,-,-,-⟩:=C9 m.c.s (by omega)
 have hZ:Z gS:=hf gS (.inr (.inl ⟨_,rfl,rfl⟩))
 have CE:=L9 M j hj
 obtain⟨c0,-,-,-,-,-,fz⟩:=Du m.c.s hj
 by_cases h0:Eg M j=0
 ·rw[<- CE,h0] at c0
  refine(a8i w B gS _ j cS _ _ _ _ m.box hj (by omega) c0).mono ?_
  rintro e w' ⟨rfl,rfl⟩
  have e1:Ff M j=M:=by unfold Ff;rw[af h0]
  rw[e1]
  exact⟨rfl,H'.up,.refl _ _⟩
 have e0:Ff M j=Vj M j:=by unfold Ff;rw[ae h0]
 rw[e0]
 by_cases hl:Eg M j=1
 ·rw[<- CE,hl] at c0
  have mt:=turned m hj 0
  refine(a8g w B gS _ j lo cS cF aF M.f _ _ _ m.box hj (by omega) c0 (fz _) m.b0p mt.at.f (by omega)).mono ?_
  rintro e w' ⟨rfl,a',c',w1,hb,ho,rfl⟩
  have e1:Vj M j = { M with s:=Jv M j 0,f:=M.f ++ [(j:Int)] }:=by simp[Vj,hl]
  have jb:(M.f ++ [(j:Int)]).length=M.f.length+1:=by simp
  rw[e1]
  have hz:(w.setCell ⟨gS,j*6,none⟩ (O J 0)).heap.size=w.heap.size:=eQ ..
  have uN:=Ri ho
  rw[<- hz] at hb ho
  have mg:=mt.Df (M.f ++ [(j:Int)]) (by rw[jb];omega) hb jb ho
  refine⟨rfl,⟨_,_,_,_,_,_,_,_,mg,Ud hf uN⟩,?_⟩
  exact(((Fine.refl w Z).set (.inl hZ) (j*6) (O J 0)).below hb).set (.inl (hf B (.inl rfl))) _ _
 ·have FY:1<M.s[j].refs:=by omega
  refine(a8h w B gS _ j cS _ _ _ _ _ m.box hj (by omega) c0 (fz _) FY (by omega)).mono ?_
  rintro e w' ⟨rfl,rfl⟩
  have e1:Vj M j = { M with s:=Jv M j (Eg M j - 1) }:=by simp[Vj,hl]
  rw[e1]
  have mt:=turned m hj (M.s[j].refs - 1)
  rw[<- CE] at mt ⊢
  exact⟨rfl,⟨_,_,_,_,_,_,_,_,mt,fun k hk=>.inl (hf k hk)⟩,(Fine.refl w Z).set (.inl hZ) _ _⟩
end
section
open Deep
theorem Uu(q:Nat):Below w.heap.size w (w.drewN q):=⟨rfl,rfl,rfl,aC _,fun _ _=>rfl⟩
end
theorem b3y(h:Zt a b=3) :
  aI Pg 59 #[O J a,O J b] w fun e w'=>e=.returned (.tuple #[.agg #[Y none 0 0,Y none 0 0,Y none 0 0,Y none 0 0,O J 0],O J 3])/\Below w.heap.size w w':=by
 have hh:inB a 0 12=false\/(inB a 0 12=true/\inB b 1 4=false):=by
  unfold Zt at h
  cases h1:inB a 0 12
  ·exact .inl rfl
  ·cases h2:inB b 1 4
   ·exact .inr ⟨rfl,rfl⟩
   ·simp[h1,h2] at h
 clear h
 rcases hh with h1|⟨h1,h2⟩
 all_goals
  go_enter func59,ntmps59
  go_wp2_with (go_at_call 85;refine(Ci _ _ _ _).mono ?_;rintro e w1 ⟨rfl,rfl⟩)
  exact bodyPost_ret (v:=.tuple #[.agg #[Y none 0 0,Y none 0 0,Y none 0 0,Y none 0 0,O J 0],O J 3]) (by simp[results,results59,go_sem]) rfl ⟨rfl,A7 _ _⟩
def Jg(n k:Nat):List Int:=(List.range k).map fun (a:Nat)=>(n:Int) - 1 - (a:Int)
def Jh(k:Nat):List Int:=(List.range k).map fun (b:Nat)=>-1 - (b:Int)
def Rh(k:Nat):List Int:=aQ k (-1)
theorem a1g:Jg n (k+1)=Jg n k ++ [(n:Int) - 1 - k]:=by simp[Jg,gK]
theorem a1h:Jh (k+1)=Jh k ++ [-1 - (k:Int)]:=by simp[Jh,gK]
theorem a1p:Rh (k+1)=Rh k ++ [-1]:=by simp[Rh,List.replicate_succ']
theorem Nw:(Jg n k).length=k:=by simp[Jg]
theorem Ny:(Jh k).length=k:=by simp[Jh]
theorem O6:(Rh k).length=k:=by simp[Rh]
theorem a7m:(gI #[O J 0,O J 0,O J 0,O J 0,.bool false,O J 0] (n*6)).toList=encS (aQ n sl0):=by
 apply List.ext_getElem?
 intro j
 by_cases hj:j<n*6
 ·have h6:j / 6<n:=by omega
  have hq:j % 6<6:=by omega
  have e6:j / 6*6+j % 6=j:=by omega
  have r:(encS (aQ n sl0))[j]?=(sl0.enc)[j % 6]?:=by
   have:=Sr (aQ n sl0) (j / 6) (j % 6) (by simpa using h6) hq
   rw[e6] at this
   rw[this]
   simp
  rw[r]
  have l:(gI #[O J 0,O J 0,O J 0,O J 0,.bool false,O J 0] (n*6)).toList[j]?=some ((#[O J 0,O J 0,O J 0,O J 0,.bool false,O J 0]:Array dU)[j % 6]!):=by
   simp[gI,hj]
  rw[l]
  generalize j % 6=q at hq
  match q,hq with
  | 0,_=>rfl
  | 1,_=>rfl
  | 2,_=>rfl
  | 3,_=>rfl
  | 4,_=>rfl
  | 5,_=>rfl
 ·rw[List.getElem?_eq_none (by simp[gI];omega),List.getElem?_eq_none (by rw[Ie];simp;omega)]
theorem Ans.off{lo g:Nat}{w w':Wq}{v:dU}{M:Mm}(A:Ans lo w v M)(hg:g<lo)(h:∀ k,k≠g->w'.heap[k]?=w.heap[k]?):Ans lo w' v M:=by
 obtain⟨aS,aH,aF,aL,cS,cH,cF,cL,e,A,hi⟩:=A
 exact⟨aS,aH,aF,aL,cS,cH,cF,cL,e,A.off hi hg h,hi⟩
theorem b6g(m:Nat)(w:Wq)(hn:n<=12)(h1:1<=m)(h4:m<=4) :
  aI Pg 59 #[O J n,O J m] w fun e w'=>∃ v,e=.returned (.tuple #[v,O J 0])/\Ans w.heap.size w' v (Vh n m)/\Below w.heap.size w w':=by
 obtain⟨i0,hi,ng,qj,pq⟩:=gG iI
 obtain⟨j0,hj,yz0,yz1,yz2⟩:=gG iS
 have e1:inB (n:Int) 0 12=true:=(Ar _ _ _).2 ⟨by omega,by omega⟩
 have e2:inB (m:Int) 1 4=true:=(Ar _ _ _).2 ⟨by omega,by omega⟩
 go_enter func59,ntmps59
 go_wp2_with (first
  | (go_at_call 85;refine(Ci _ _ _ _).mono ?_;rintro e w1 ⟨rfl,rfl⟩)
  | (at_make;refine wpList_make_full _ rfl _ _ 22 rfl (w.heap.size+1) 64 j0 (.agg #[O J 0,O J 0,O J 0,O J 0,.bool false,O J 0]) 6 underlying22 hj yz0 yz1 .i64 .i64 _ _ n rfl rfl rfl rfl (by rw[yz2];omega) (by unfold gJ;omega) (by simp) ?_;intro w1 jv qL))
 rw[show (w.alloc (.cells #[Y none 0 0,Y none 0 0,Y none 0 0,Y none 0 0,O J 0] 25)).heap.size=w.heap.size+1 by simp] at *
 obtain⟨W0,zo⟩:∃ W0,W0=w.alloc (.cells #[Y none 0 0,Y none 0 0,Y none 0 0,Y none 0 0,O J 0] 25):=⟨_,rfl⟩
 have HR:Qi (W0.heap[w.heap.size]?=some (.cells #[Y none 0 0,Y none 0 0,Y none 0 0,Y none 0 0,O J 0] 25)):=by rw[zo];exact heap_alloc_new _ _
 have HW:Qi (Below w.heap.size w W0):=by rw[zo];exact A7 _ _
 have HZ:Qi (W0.heap.size=w.heap.size+1):=by show _=_;rw[zo];simp
 rw[<- zo] at qL
 clear zo
 have hS:w1.ownsRow (w.heap.size+1) 64 6 (Y (some ⟨w.heap.size+1,0,none⟩) n n) n (encS (aQ n sl0)):=by
  rw[<- a7m n];exact jv
 have z1:w.heap.size+1<w1.heap.size:=(hS.lt _ rfl).2
 have G0:Gr W0 (w.heap.size+1) w1.heap.size (w1.alloc (.cells #[Y (some ⟨w.heap.size+1,0,none⟩) n n,Y none 0 0,Y none 0 0,Y none 0 0,O J 0] 25)) (Y (some ⟨w.heap.size+1,0,none⟩) n n) (Y none 0 0) (Y none 0 0) (Y none 0 0) (aQ n sl0) [] [] []:=by
  refine⟨heap_alloc_new _ _,?_,eU _ _ _ _,eU _ _ _ _,eU _ _ _ _,(fun g h=>by cases h),(fun g h=>by cases h),(fun g h=>by cases h),by omega,?_⟩
  ·rw[List.length_replicate];exact hS.alloc _
  ·exact((Below.refl _ W0).grown qL (by rw[HZ.o];exact aC _) (fun k h=>by cases h)).alloc (by omega) _
 clear jv qL hS
 go_loopw [22] (fun i wr=>∃ k:Nat,k<=n/\i=O J k/\∃ fv,Gr W0 (w.heap.size+1) w1.heap.size wr (Y (some ⟨w.heap.size+1,0,none⟩) n n) (Y none 0 0) fv (Y none 0 0) (aQ n sl0) [] (Jg n k) [])
  (fun i _=>n - (intOf i).toNat)
 case atStart=>exact⟨0,aG _,rfl,_,G0⟩
 case round =>
  obtain⟨k,hk,rfl,fv,G⟩:=hrel
  clear G0
  obtain⟨ao,bg,rfl⟩:=Bg G.f
  rw[Nw] at G
  obtain⟨q0,q1,q2,q3,q4,f0,f1,f2,f3,f4,qs⟩:=Aj G.box
  by_cases gm:k<n
  ·have iw:∀ b:Nat,b<w1.heap.size->True:=fun _ _=>trivial
   go_wp2_with (at_builtin;refine gB _ rfl (.tmp 26) (.tmp 31) 23 rfl (w.heap.size+1) 3 i0 (O J 0) 1 8 fA hi ng qj pq rfl (by first|decide|exact Ex.ne _ _ (by decide)) _ _ _ rfl (G.f.alloc _) ⟨wr.heap.size,0,none⟩ 1 1 [O J ((n:Int) - 1 - (k:Int))] rfl rfl (Vt _ _ _ _ rfl) (by intro u hu;simp at hu;subst hu;rfl) (by rw[Nw];unfold gJ;omega) (by rw[Nw];omega) (by simp;omega) ?_;intro v2 w2 jk lg _ ji;obtain⟨g2,eu,rfl⟩:=ownsRow_form jk (by omega);have uw:Qi (w2.ownsRow (w.heap.size+1) 3 1 _ ((Jg n k).length+1) (encI (Jg n k) ++ [O J ((n:Int) - 1 - (k:Int))])):=jk;have rM:Qi ((wr.alloc (.cells #[O J ((n:Int) - 1 - (k:Int))] 3)).grownBy w2 (eX ao k bg).ownBlock):=⟨lg.1,lg.2,lg.3,lg.4,lg.5⟩;have DR:Qi ((eX (some ⟨g2,0,none⟩) ((Jg n k).length+1) eu).ownBlock=(eX ao k bg).ownBlock\/(eX (some ⟨g2,0,none⟩) ((Jg n k).length+1) eu).ownBlock=some (wr.alloc (.cells #[O J ((n:Int) - 1 - (k:Int))] 3)).heap.size):=ji;clear jk lg ji q0 q1 q2 q3 q4 f0 f1 f2 f3 f4;obtain⟨q0,q1,q2,q3,q4,f0,f1,f2,f3,f4,qs2⟩:=Aj (Dt G.box rM.o (own_ne G.f G.box (by first|decide|exact Ex.ne _ _ (by decide)))))
   go_roundw
   case rel=>exact⟨k+1,by omega,by go_num,_,by rw[a1g];exact G.b5s uw.o rM.o DR.o⟩
   case measure=>simp[intOf];omega
  ·obtain rfl:k=n:=by omega
   go_wp2
   go_loopw [36] (fun i wr=>∃ j:Nat,j<=m/\i=O J j/\∃ hv lv,Gr W0 (w.heap.size+1) w1.heap.size wr (Y (some ⟨w.heap.size+1,0,none⟩) k k) hv (Y ao k bg) lv (aQ k sl0) (Jh j) (Jg k k) (Rh j))
    (fun i _=>m - (intOf i).toNat)
   case atStart=>exact⟨0,aG _,rfl,_,_,G⟩
   case round =>
    obtain⟨j,hj,rfl,hv,lv,G2⟩:=hrel
    clear G q0 q1 q2 q3 q4 f0 f1 f2 f3 f4 qs
    obtain⟨aH,cH,rfl⟩:=Bg G2.h
    obtain⟨aL,cL,rfl⟩:=Bg G2.l
    rw[Ny,O6] at G2
    obtain⟨q0,q1,q2,q3,q4,f0,f1,f2,f3,f4,qs⟩:=Aj G2.box
    by_cases wI:j<m
    ·have RX:((wr.alloc (.cells #[O J (-1 - (j:Int))] 3)).drew).ownsRow (w.heap.size+1) 3 1 (Y aH j cH) (Jh j).length (encI (Jh j)):=(G2.h.alloc (.cells #[O J (-1 - (j:Int))] 3):(wr.alloc (.cells #[O J (-1 - (j:Int))] 3)).ownsRow (w.heap.size+1) 3 1 (Y aH j cH) (Jh j).length (encI (Jh j)))
     have SI:∀ q u,[Value.int .i64 (-1 - (j:Int))][q]?=some u->((wr.alloc (.cells #[O J (-1 - (j:Int))] 3)).drew).cell? ((⟨wr.heap.size,0,none⟩:Addr).add q)=some u:=fun q u h=>cell_one_new wr (O J (-1 - (j:Int))) 3 q u h
     have G2':Gr W0 (w.heap.size+1) w1.heap.size wr.drew (Y (some ⟨w.heap.size+1,0,none⟩) k k) (Y aH j cH) (Y ao k bg) (Y aL j cL) (aQ k sl0) (Jh j) (Jg k k) (Rh j):=⟨G2.box,G2.s,G2.h,G2.f,G2.l,G2.hf,G2.hl,G2.fl,G2.at_,G2.below.drew⟩
     go_wp2_with fail
     go_region_law (first
      | (go_simp;go_at_call 108;refine(Qd _ _ (by omega) (by omega)).mono ?_;rintro e wq ⟨rfl,rfl⟩)
      | (refine Dq _ rfl (.tmp 40) (.tmp 43) 23 rfl (w.heap.size+1) 3 i0 (O J 0) 1 8 fA hi ng qj pq rfl (by first|decide|exact Ex.ne _ _ (by decide)) (Y aH j cH) _ _ rfl RX ⟨wr.heap.size,0,none⟩ 1 1 [O J (-1 - (j:Int))] rfl rfl SI (by intro u hu;simp at hu;subst hu;rfl) (by rw[Ny];unfold gJ;omega) (by rw[Ny];omega) (by simp;omega) ?_;intro v2 w2 jk lg _ ji;obtain⟨g2,eu,rfl⟩:=ownsRow_form jk (by omega);have rM:Qi ((wr.alloc (.cells #[O J (-1 - (j:Int))] 3)).grownBy w2 (eX aH j cH).ownBlock):=⟨lg.1,lg.2,lg.3,lg.4,lg.5⟩;have G3:=G2.b5u (x:=-1 - (j:Int)) jk rM.o ji;clear jk lg ji q0 q1 q2 q3 q4 f0 f1 f2 f3 f4;obtain⟨q0,q1,q2,q3,q4,f0,f1,f2,f3,f4,qs2⟩:=Aj (Dt G2.box rM.o (own_ne G2.h G2.box (by first|decide|exact Ex.ne _ _ (by decide))));have z2:w1.heap.size<w2.heap.size:=qs2))
     all_goals go_wp2_with (at_builtin;refine gB _ rfl (.tmp 47) (.tmp 48) 23 rfl (w.heap.size+1) 3 i0 (O J 0) 1 8 fA hi ng qj pq rfl (by first|decide|exact Ex.ne _ _ (by decide)) _ _ _ rfl (G3.l.alloc _) ⟨w2.heap.size,0,none⟩ 1 1 [O J (-1)] rfl rfl (Vt _ _ _ _ (eQ ..).symm) (by intro u hu;simp at hu;subst hu;rfl) (by rw[O6];unfold gJ;omega) (by rw[O6];omega) (by simp;omega) ?_;intro v3 w3 AZ hg3 _ LX;obtain⟨g3,cap3,rfl⟩:=ownsRow_form AZ (by omega);have HG3:Qi (((w2.setCell ⟨w1.heap.size,1,none⟩ (Y (some ⟨g2,0,none⟩) ((Jh j).length+1) eu)).alloc (.cells #[O J (-1)] 3)).grownBy w3 (eX aL j cL).ownBlock):=hg3;have G4:=G3.b5y (x:=-1) AZ HG3.o LX;clear AZ hg3 LX q0 q1 q2 q3 q4 f0 f1 f2 f3 f4;obtain⟨q0,q1,q2,q3,q4,f0,f1,f2,f3,f4,YO⟩:=Aj (Dt G3.box HG3.o (own_ne G3.l G3.box (by first|decide|exact Ex.ne _ _ (by decide)))))
     all_goals (go_roundw;(case rel=>exact⟨j+1,by omega,by go_num,_,_,by rw[a1h,a1p];exact G4⟩);(case measure=>simp[intOf];omega))
    ·obtain rfl:j=m:=by omega
     have AC:Qi (wr.heap[w.heap.size]?=_):=(G2.below.block w.heap.size (by omega)).trans HR.o
     obtain⟨r0,r1,r2,r3,r4,g0,g1,g2,g3,g4,rs⟩:=Aj AC.o
     have A:=G2.ans (by simp;omega) (by rw[Ny];omega) (by rw[Nw];omega) (by rw[O6];omega)
     have HA:Qi (Ans (w.heap.size+1) wr _ _):=A
     have HB:Qi (Below w.heap.size w wr):=HW.o.trans (G2.below.mono (by omega))
     clear A G2
     go_wp2
     refine bodyPost_ret (v:=.tuple #[.agg #[Y (some ⟨w.heap.size+1,0,none⟩) k k,Y aH j cH,Y ao k bg,Y aL j cL,O J 0],O J 0]) (by simp[results,results59,go_sem,r0,r1,r2,r3,r4]) rfl ⟨_,rfl,?_,?_⟩
     ·exact(HA.o.off (by omega) (fun k hk=>Rt (w:=wr) hk)).mono (by omega)
     ·exact HB.o.trans (O9 wr _ _ _ _ _ _ _ (by omega))
theorem Zq:(Op.equalIn 10000 30 (.agg #[O J a,O J b]) (.agg #[O J c,O J d])).run Pg w=.ok (a==c && b==d) w:=by
 have u3:=underlying3
 have a3:=isAgg3
 have z3:=sizeOf3
 have hS:Pg.underlying 30=some (.struct (Pg.fieldsOf 30)):=by kernel_rfl
 have hp:Pg.stoodInHeld 30=false:=by kernel_rfl
 rw[show (10000:Nat)=9999+1 from rfl,run_equalIn_agg w 9999 30 _ _ hS hp]
 simp only[Program.fieldsOf,underlying30]
 go_simp
 by_cases h1:a=c <;> by_cases h2:b=d <;> simp[h1,h2]
def fM1:Mm:=Vh 2 1
def fM2:Mm:=Pm fM1 1 0 5
def fM3:Mm:=Pm fM2 2 0 5
def fM4:Mm:=Pm fM3 3 0 5
def fM5:Mm:=letM fM3 1
def fM6:Mm:=Pm fM5 4 0 6
theorem g2:Pm fM1 1 0 5=fM2:=rfl
theorem g3:Pm fM2 2 0 5=fM3:=rfl
theorem g4:Pm fM3 3 0 5=fM4:=rfl
theorem g5:letM fM3 1=fM5:=rfl
theorem g6:Pm fM5 4 0 6=fM6:=rfl
theorem f2:a0f fM1 1 0 5=0/\Uk fM1 1 0 5=0:=by decide
theorem f3:a0f fM2 2 0 5=1/\Uk fM2 2 0 5=0:=by decide
theorem f4:a0f fM3 3 0 5=0/\Uk fM3 3 0 5=7:=by decide
theorem f5:letE fM3 1=0:=by decide
theorem f6:a0f fM5 4 0 6=1/\Uk fM5 4 0 6=0:=by decide
end Go.Proofs.YthhgoenomehobaaGreat.mm
