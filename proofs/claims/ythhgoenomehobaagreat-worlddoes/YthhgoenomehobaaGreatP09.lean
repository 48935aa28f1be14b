/- Parts. -/
import Derived.Test.YthhgoenomehobaaGreatP06
import Derived.Test.YthhgoenomehobaaGreatP02
import Derived.Laws.AppendOwnNone
import Derived.Deep.RegionLaw
import Derived.Deep.QuietTactic
import Derived.BigQuiet
import Derived.BigRegion
import Derived.Test.YthhgoenomehobaaGreatP08
import Derived.Laws.StructEq
namespace Go.Proofs.YthhgoenomehobaaGreat.mm
set_option maxRecDepth 100000
set_option linter.unusedVariables false
open Go.Value renaming int → O, slice → Y
open Go.IntKind renaming i64 → J
open Go.Proofs.Tryz renaming prog → Pg
open Go renaming World → Wq
open Go.ChangeShapes Go.WideShapes Go.ChangeAt Go.RowKit Go.Joins
set_option maxHeartbeats 3200000
section
open Go.Deep
variable {Xb:Ex}
theorem a9f(w:Wq)(B gS nS j cS:Nat)(hv fv lv nv:Value)(r:Int)
  (hB:w.heap[B]?=some (.cells (List.toArray (Y (some ⟨gS,0,none⟩) nS cS :: hv :: fv :: lv :: nv :: Xb.rs)) Xb.rt (0,0))) (hj:j<nS) (hS:nS<=9223372036854775807) (c0:w.cell? ⟨gS,j*6,none⟩=some (O J r)) (hr:r<=0\/1000<=r) :
  Calls Pg 116 #[.pointer (some ⟨B,0,none⟩),O J j] w fun e w'=>e=.returned (.bool false)/\w=w':=by
 obtain⟨q0,q1,q2,q3,q4,f0,f1,f2,f3,f4,qs⟩:=Af hB
 clear hB
 by_cases h0:r<=0
 ·go_enter Tryz.func116,Tryz.ntmps116
  go_wp2
  go_ret
  exact⟨rfl,rfl⟩
 ·have h1:1000<=r:=by omega
  have h2:0<r:=by omega
  go_enter Tryz.func116,Tryz.ntmps116
  go_wp2
  go_ret
  exact⟨rfl,rfl⟩
theorem a5t(w:Wq)(B gS nS j cS:Nat)(hv fv lv nv:Value)(r:Int)
  (hB:w.heap[B]?=some (.cells (List.toArray (Y (some ⟨gS,0,none⟩) nS cS :: hv :: fv :: lv :: nv :: Xb.rs)) Xb.rt (0,0))) (hj:j<nS) (hS:nS<=9223372036854775807) (c0:w.cell? ⟨gS,j*6,none⟩=some (O J r)) (f0:w.frozen? ⟨gS,j*6,none⟩=false) (h0:0<r) (h1:r<1000) :
  Calls Pg 116 #[.pointer (some ⟨B,0,none⟩),O J j] w fun e w'=>e=.returned (.bool true)/\w.setCell ⟨gS,j*6,none⟩ (O J (r+1))=w':=by
 obtain⟨q0,q1,q2,q3,q4,-,-,-,-,-,qs⟩:=Af hB
 clear hB
 go_enter Tryz.func116,Tryz.ntmps116
 go_wp2
 go_ret
 exact⟨rfl,rfl⟩
theorem a1p(M:Mm)(w:Wq)(B lo:Nat)(aS aH aF aL:Option Addr)(cS cH cF cL:Nat)(i:Int)(m:Mine Xb w B lo aS aH aF aL cS cH cF cL M)(h0:0<=i)(h1:i<M.slots.length)(hr:Dy M i<=0\/1000<=Dy M i) :
  Calls Pg 116 #[.pointer (some ⟨B,0,none⟩),O J i] w fun e w'=>e=.returned (.bool false)/\w=w':=by
 obtain⟨j,rfl⟩:∃ j:Nat,i=j:=⟨i.toNat,by omega⟩
 have hj:j<M.slots.length:=by omega
 have m1:=m.m1
 obtain⟨gS,rfl,-,-,-,-⟩:=Bh m.c.s (by omega)
 rw[Jj M j hj] at hr
 exact a9f w B gS _ j cS _ _ _ _ _ m.box hj (by omega) (Df m.c.s hj).1 hr
theorem a5x(w:Wq)(B gS nS j cS:Nat)(hv fv lv nv:Value)
  (hB:w.heap[B]?=some (.cells (List.toArray (Y (some ⟨gS,0,none⟩) nS cS :: hv :: fv :: lv :: nv :: Xb.rs)) Xb.rt (0,0))) (hj:j<nS) (hS:nS<=9223372036854775807) (c0:w.cell? ⟨gS,j*6,none⟩=some (O J 0)) :
  Calls Pg 72 #[.pointer (some ⟨B,0,none⟩),O J j] w fun e w'=>e=.returned (.tuple #[])/\w=w':=by
 obtain⟨q0,q1,q2,q3,q4,f0,f1,f2,f3,f4,qs⟩:=Af hB
 clear hB
 go_enter Tryz.func72,Tryz.ntmps72
 go_wp2
 go_end0
 exact⟨rfl,rfl⟩
theorem a5w(w:Wq)(B gS nS j cS:Nat)(hv fv lv nv:Value)(r:Int)
  (hB:w.heap[B]?=some (.cells (List.toArray (Y (some ⟨gS,0,none⟩) nS cS :: hv :: fv :: lv :: nv :: Xb.rs)) Xb.rt (0,0))) (hj:j<nS) (hS:nS<=9223372036854775807) (c0:w.cell? ⟨gS,j*6,none⟩=some (O J r)) (f0:w.frozen? ⟨gS,j*6,none⟩=false) (h0:1<r) (h1:r<=1000) :
  Calls Pg 72 #[.pointer (some ⟨B,0,none⟩),O J j] w fun e w'=>e=.returned (.tuple #[])/\w.setCell ⟨gS,j*6,none⟩ (O J (r - 1))=w':=by
 obtain⟨q0,q1,q2,q3,q4,-,-,-,-,-,qs⟩:=Af hB
 clear hB
 have e0:(r==0)=false:=by rw[beq_eq_false_iff_ne];omega
 have e1:(r==1)=false:=by rw[beq_eq_false_iff_ne];omega
 go_enter Tryz.func72,Tryz.ntmps72
 go_wp2
 go_end0
 exact⟨rfl,rfl⟩
theorem a2s{P:Program}(w:Wq){ops:Array Oper}{rest:List Oper}{o:Oper}{a:Act}{Q:Exit->Act->Wq->Prop}(hgd:o.guard=none)(s x:Operand)(t:TypeId)
  (ho:o.op=.call { callee:=.builtin .append,args:=#[s,x],argTypes:=#[t,t] })
  (base:Nat) (e:TypeId) (i:TypeInfo) (z:Value) (size bytes:Nat) (ht:P.underlying t=some (.slice e)) (hi:P.info? e=some i) (hz:i.zero=some z)
  (hsize:i.size=size) (hby:i.bytes=bytes) (hzs:z.cells.size=size) (hsz:0<size)
  (v:Value) (n:Nat) (xs:List Value) (hs:a.eval s=v) (hown:w.ownsRow base e size v n xs)
  (ao:Option Addr) (m c:Nat) (news:List Value) (hx:a.eval x=Y ao m c) (hl:news.length=m*size) (hn:ao=none->m=0/\c=0) (hnews:∀ ad,ao=some ad->∀ j u,news[j]?=some u->w.cell? (ad.add j)=some u) (h1:∀ u∈news,u.oneCell'=true)
  (h63:n+m<=maxLen) (hbytes:(n+m)*bytes<=140737488355328) (hbase:base<=w.heap.size)
  (h:∀ v' w',w'.ownsRow base e size v' (n+m) (xs++news)->w.grownBy w' v.ownBlock->(v'.ownBlock=v.ownBlock\/v'.ownBlock=some w.heap.size)->wpList P ops Q rest (a.put o.dst v') w') :
  wpList P ops Q (o :: rest) a w:=by
 cases ao with
 | some ad=>exact wpList_append_own_at w hgd s x t ho base e i z size bytes ht hi hz hsize hby hzs hsz v n xs hs hown ad m c news hx hl (hnews ad rfl) h1 h63 hbytes hbase fun v' w' a1 a2 _ a4=>h v' w' a1 a2 a4
 | none =>
  obtain⟨rfl,rfl⟩:=hn rfl
  have hnil:news=[]:=List.eq_nil_of_length_eq_zero (by rw[hl,Nat.zero_mul])
  subst hnil
  have hr:=run_append_owned_none (P:=P) w base t o.type e i size ht hi v n xs hown
  refine wpList_plain hgd fun K hK=>?_
  unfold Oper.wp execOp
  simp only[ho,resolve,invoke,builtin,Sem.run_bind,Sem.run_pure,Result.andThen_ok,List.map_toArray,List.map_cons,List.map_nil,hs,hx,hr]
  refine hK _ _ (h v w ?_ ⟨rfl,rfl,rfl,Nat.le_refl _,fun _ _ _=>rfl⟩ (.inl rfl))
  rw[Nat.add_zero,List.append_nil]
  exact hown
theorem a3i(w:Wq)(e:TypeId)(size lo n:Nat)(hn:n=w.heap.size)(h:lo<=w.heap.size):(w.alloc (.cells #[] e)).ownsRow lo e size (Y (some ⟨n,0,none⟩) 0 0) 0 []:=by
 subst hn
 exact World.ownsRow_lit w #[] 0 h (Nat.zero_le _) (by simp)
theorem a5v(w:Wq)(B gS nS j lo cS cF:Nat)(aF:Option Addr)(F:List Int)(hv lv nv:Value)
  (hB:w.heap[B]?=some (.cells (List.toArray (Y (some ⟨gS,0,none⟩) nS cS :: hv :: Y aF F.length cF :: lv :: nv :: Xb.rs)) Xb.rt (0,0))) (hj:j<nS) (hS:nS<=9223372036854775807) (c0:w.cell? ⟨gS,j*6,none⟩=some (O J 1)) (f0:w.frozen? ⟨gS,j*6,none⟩=false)
  (hne:B≠gS) (hO:Cj (w.setCell ⟨gS,j*6,none⟩ (O J 0)) aF cF F) (hm:F.length*8<=140737488350000) :
  Calls Pg 72 #[.pointer (some ⟨B,0,none⟩),O J j] w fun e w'=>e=.returned (.tuple #[])/\∃ a' c' w1,Below w.heap.size (w.setCell ⟨gS,j*6,none⟩ (O J 0)) w1 /\
   w1.ownsRow w.heap.size 3 1 (Y a' (F.length+1) c') (F.length+1) (encI (F ++ [(j:Int)]))/\w1.setCell ⟨B,2,none⟩ (Y a' (F.length+1) c')=w':=by
 obtain⟨q0,q1,q2,q3,q4,-,-,f2,-,-,qs⟩:=Af hB
 obtain⟨i0,hi,hz0,hz1,hz2⟩:=info_parts iI
 have hne':(⟨gS,j*6,none⟩:Addr) ≠ ⟨B,2,none⟩:=by intro h;injection h with h;omega
 have hBs:(w.setCell ⟨gS,j*6,none⟩ (O J 0)).heap[B]?=_:=(Below.heap_setCell _ _ _ _ (by dsimp only;exact hne)).trans hB
 have HO:Hid (Cj (w.setCell ⟨gS,j*6,none⟩ (O J 0)) aF cF F):=hO
 have HBs:Hid _:=hBs
 have hzw:(w.setCell ⟨gS,j*6,none⟩ (O J 0)).heap.size=w.heap.size:=World.size_setCell ..
 have HZw:Hid _:=hzw
 have HB:Hid _:=hB
 clear hB hO hBs hzw
 have HN:Hid (aF=none->F.length=0/\cF=0):=fun h=>⟨by have:=HO.out.nil h;have:=HO.out.le;omega,HO.out.nil h⟩
 have HSr:Hid (∀ ad,aF=some ad->∀ j' u,(encI F)[j']?=some u->((w.setCell ⟨gS,j*6,none⟩ (O J 0)).alloc (.cells #[] 3)).cell? (ad.add j')=some u):=(HO.out.below (A7 _ _)).src
 have HLt:Hid (((w.setCell ⟨gS,j*6,none⟩ (O J 0)).alloc (.cells #[] 3)).ownsRow w.heap.size 3 1 (Y (some ⟨w.heap.size,0,none⟩) 0 0) 0 []):=a3i _ 3 1 w.heap.size _ HZw.out.symm (Nat.le_of_eq HZw.out.symm)
 have hL63:0+F.length<=maxLen:=by unfold maxLen;omega
 have HLB:Hid (w.heap.size<=((w.setCell ⟨gS,j*6,none⟩ (O J 0)).alloc (.cells #[] 3)).heap.size):=by show _<=_;simp
 have HE:Hid ((encI F).length=F.length*1):=by show _=_;rw[Dq,Nat.mul_one]
 go_enter Tryz.func72,Tryz.ntmps72
 go_wp2_with (first
  | (at_builtin;(refine a2s _ rfl (.tmp 35) (.tmp 39) 23 rfl w.heap.size 3 i0 (O J 0) 1 8 Tryz.underlying23 hi hz0 hz1 hz2 rfl (by first|decide|exact Ex.ne _ _ (by decide)) (Y (some ⟨w.heap.size,0,none⟩) 0 0) 0 [] rfl HLt.out aF F.length cF (encI F) rfl HE.out HN.out HSr.out (Gp F) hL63 (by omega) HLB.out ?_;intro v1 w1 hown1 hgrow1 hloc1;rw[Nat.zero_add,List.nil_append] at hown1;obtain⟨a1,c1,rfl⟩:=Aq hown1;have HO1:Hid (w1.ownsRow w.heap.size 3 1 (Y a1 F.length c1) F.length (encI F)):=hown1;have HG1:Hid (((w.setCell ⟨gS,j*6,none⟩ (O J 0)).alloc (.cells #[] 3)).grownBy w1 (some w.heap.size)):=hgrow1;clear hown1 hgrow1 hloc1;have HZ1:Hid (w.heap.size+1<=w1.heap.size):=(by have:=HG1.out.size;simp at this;exact this)))
  | (at_builtin;(refine wpList_append_own_at _ rfl (.tmp 40) (.tmp 42) 23 rfl w.heap.size 3 i0 (O J 0) 1 8 Tryz.underlying23 hi hz0 hz1 hz2 rfl (by first|decide|exact Ex.ne _ _ (by decide)) (Y a1 F.length c1) F.length (encI F) rfl (HO1.out.alloc _) ⟨w1.heap.size,0,none⟩ 1 1 [O J j] rfl rfl (Lt _ _ _ _ rfl) (by intro u hu;simp at hu;subst hu;rfl) (by unfold maxLen;omega) (by omega) (by simp;have:=HZ1.out;omega) ?_;intro v2 w2 hown2 hgrow2 _ hloc2;obtain⟨g2,c2,rfl⟩:=ownsRow_form hown2 (by omega);have HO2:Hid (w2.ownsRow w.heap.size 3 1 (Y (some ⟨g2,0,none⟩) (F.length+1) c2) (F.length+1) (encI F ++ [O J j])):=hown2;have HG2:Hid ((w1.alloc (.cells #[O J j] 3)).grownBy w2 (Value.slice a1 F.length c1).ownBlock):=hgrow2;clear hown2 hgrow2 hloc2;have HK2:Hid (Below w.heap.size (w.setCell ⟨gS,j*6,none⟩ (O J 0)) w2):=(((((Below.refl _ _).alloc (by rw[HZw.out];exact Nat.le_refl _) _).grown HG1.out (by simp) (fun k h=>by cases h;exact Nat.le_refl _)).alloc (by have:=HZ1.out;omega) _).grown HG2.out (by simp;have:=HZ1.out;omega) (fun k h=>(HO1.out.lt k h).1));obtain⟨r2,r3⟩:w2.cell? ⟨B,2,none⟩=some (Y aF F.length cF)/\w2.frozen? ⟨B,2,none⟩=false:=(by obtain⟨-,-,k2,-,-,-,-,l2,-,-,-⟩:=Af ((HK2.out.block B qs).trans HBs.out);exact⟨k2,l2⟩))))
 go_end0
 refine⟨rfl,_,_,w2,HK2.out,?_,rfl⟩
 have:=HO2.out
 rwa [show encI F ++ [O J (j:Int)]=encI (F ++ [(j:Int)]) by simp[encI]] at this
theorem a9v{w W1 w2:Wq}{ob:Obj}(hb:Below w.heap.size w W1)(hk:W1.heap[w.heap.size]?=some ob)(hz:W1.heap.size=w.heap.size+1)(hg:((W1.alloc (.cells #[] 3)).drew).grownBy w2 (some W1.heap.size)) :
  Below w.heap.size w w2/\w.heap.size<w2.heap.size/\w2.heap[w.heap.size]?=some ob:=by
 have h1:Below W1.heap.size W1 w2:=((A7 W1 (.cells #[] 3)).drew).grown hg (by simp) (fun k h=>by cases h;exact Nat.le_refl _)
 refine⟨hb.trans (h1.mono (by omega)),by have:=h1.size;omega,(h1.block _ (by omega)).trans hk⟩
theorem a2l{w w2:Wq}{gS j:Nat}{r a b v nx:Int}{i:Bool}(hb:Below w.heap.size w w2)(l:gS<w.heap.size)
  (c0:w.cell? ⟨gS,j*6,none⟩=some (O J r)) (c1:w.cell? ⟨gS,j*6+1,none⟩=some (O J a)) (c2:w.cell? ⟨gS,j*6+2,none⟩=some (O J b)) (c3:w.cell? ⟨gS,j*6+3,none⟩=some (O J v)) (c4:w.cell? ⟨gS,j*6+4,none⟩=some (.bool i)) (c5:w.cell? ⟨gS,j*6+5,none⟩=some (O J nx))
  (hfz:∀ q,w.frozen? ⟨gS,q,none⟩=false):w2.cell? ⟨gS,j*6,none⟩=some (O J r)/\w2.cell? ⟨gS,j*6+1,none⟩=some (O J a)/\w2.cell? ⟨gS,j*6+2,none⟩=some (O J b)/\w2.cell? ⟨gS,j*6+3,none⟩=some (O J v)/\w2.cell? ⟨gS,j*6+4,none⟩=some (.bool i)/\w2.cell? ⟨gS,j*6+5,none⟩=some (O J nx)/\∀ q,w2.frozen? ⟨gS,q,none⟩=false:=by
 obtain⟨q,f⟩:=Bv hb
 exact⟨(q _ _ l).trans c0,(q _ _ l).trans c1,(q _ _ l).trans c2,(q _ _ l).trans c3,(q _ _ l).trans c4,(q _ _ l).trans c5,fun x=>(f _ _ l).trans (hfz x)⟩
end
section
variable {Xb:Ex}
def Ac(B:Nat)(aS aH aF aL:Option Addr)(k:Nat):Prop :=
 k=B\/(∃ ad,aS=some ad/\ad.block=k)\/(∃ ad,aH=some ad/\ad.block=k)\/(∃ ad,aF=some ad/\ad.block=k)\/(∃ ad,aL=some ad/\ad.block=k)
structure Fine(w w':Wq)(Z:Nat->Prop):Prop where
 os:w'.os=w.os
 tape:w'.tape=w.tape
 output:w'.output=w.output
 size:w.heap.size<=w'.heap.size
 block:∀ k,k<w.heap.size->¬ Z k->w'.heap[k]?=w.heap[k]?
def Up(w:Wq)(Z:Nat->Prop)(k:Nat):Prop:=Z k\/w.heap.size<=k
theorem Fine.refl(w:Wq)(Z:Nat->Prop):Fine w w Z:=⟨rfl,rfl,rfl,Nat.le_refl _,fun _ _ _=>rfl⟩
theorem Fine.of_below{w w':Wq}(Z:Nat->Prop)(hb:Below w.heap.size w w'):Fine w w' Z:=⟨hb.os,hb.tape,hb.output,hb.size,fun k h _=>hb.block k h⟩
theorem Fine.trans{w w1 w2:Wq}{Z Z':Nat->Prop}(h:Fine w w1 Z)(h':Fine w1 w2 Z')(hz:∀ k,k<w.heap.size->Z' k->Z k):Fine w w2 Z :=
 ⟨h'.os.trans h.os,h'.tape.trans h.tape,h'.output.trans h.output,Nat.le_trans h.size h'.size,fun k h1 h2=>(h'.block k (Nat.lt_of_lt_of_le h1 h.size) (fun h3=>h2 (hz k h1 h3))).trans (h.block k h1 h2)⟩
theorem Fine.go{w w1 w2:Wq}{Z:Nat->Prop}(h:Fine w w1 Z)(h':Fine w1 w2 (Up w Z)):Fine w w2 Z :=
 h.trans h' fun k h1 h2=>h2.elim id (fun h3=>by omega)
theorem Fine.below{w w1 w2:Wq}{Z:Nat->Prop}(h:Fine w w1 Z)(hb:Below w1.heap.size w1 w2):Fine w w2 Z :=
 h.trans (.of_below Z hb) fun _ _ h=>h
theorem Fine.set{w w1:Wq}{Z:Nat->Prop}{k:Nat}(h:Fine w w1 Z)(hk:Z k\/w.heap.size<=k)(j:Nat)(v:Value):Fine w (w1.setCell ⟨k,j,none⟩ v) Z :=
 ⟨h.os,h.tape,h.output,by rw[World.size_setCell];exact h.size,fun i h1 h2=>by
  have hne:i≠k:=by rintro rfl;exact hk.elim h2 (fun h3=>by omega)
  rw[Below.heap_setCell _ _ _ _ (by dsimp only;exact hne)]
  exact h.block i h1 h2⟩
theorem Fine.down{w w1:Wq}{Z:Nat->Prop}(h:Fine w w1 Z){n:Nat}(hn:n<=w.heap.size)(hz:∀ k,Z k->n<=k):Below n w w1 :=
 ⟨h.os,h.tape,h.output,h.size,fun k hk=>h.block k (by omega) (fun h3=>by have:=hz k h3;omega)⟩
theorem Fine.mono{w w1:Wq}{Z Z':Nat->Prop}(h:Fine w w1 Z)(hz:∀ k,Z k->Z' k):Fine w w1 Z':=⟨h.os,h.tape,h.output,h.size,fun k h1 h2=>h.block k h1 (fun h3=>h2 (hz k h3))⟩
theorem Bj{w w':Wq}{lo size n:Nat}{e:TypeId}{v:Value}{xs:List Value}(h:w.ownsRow lo e size v n xs)(hk:∀ g,v.ownBlock=some g->w'.heap[g]?=w.heap[g]?):w'.ownsRow lo e size v n xs:=by
 refine⟨h.1,?_⟩
 rcases h.2 with h1|⟨g,cap,cur,rfl,hg,hb,rest⟩
 ·exact .inl h1
 ·exact .inr ⟨g,cap,cur,rfl,hg,(hk g rfl).trans hb,rest⟩
def Has(Xb:Ex)(w:Wq)(B lo:Nat)(Z:Nat->Prop)(M:Mm):Prop :=
 ∃ aS aH aF aL cS cH cF cL,Mine Xb w B lo aS aH aF aL cS cH cF cL M/\∀ k,Ac B aS aH aF aL k->Z k
theorem Qr{aS:Option Addr}{n c g:Nat}(h:(Value.slice aS n c).ownBlock=some g):∃ ad,aS=some ad/\ad.block=g:=by
 cases aS with
 | none=>cases h
 | some ad=>exact⟨ad,rfl,by injection h⟩
theorem Mine.same{w w':Wq}{B lo:Nat}{aS aH aF aL:Option Addr}{cS cH cF cL:Nat}{M:Mm}(m:Mine Xb w B lo aS aH aF aL cS cH cF cL M)(hz:w.heap.size<=w'.heap.size)
  (hk:∀ k,k<w.heap.size->Ac B aS aH aF aL k->w'.heap[k]?=w.heap[k]?):Mine Xb w' B lo aS aH aF aL cS cH cF cL M:=by
 obtain⟨hB,⟨s,h,f,l,hf,hl,fl,lz⟩,m1,m2,m3,m4⟩:=m
 refine⟨(hk B (lt_of_block hB) (.inl rfl)).trans hB,⟨?_,?_,?_,?_,hf,hl,fl,Nat.le_trans lz hz⟩,m1,m2,m3,m4⟩
 ·exact Bj s fun g hg=>hk g (s.lt g hg).2 (.inr (.inl (Qr hg)))
 ·exact Bj h fun g hg=>hk g (h.lt g hg).2 (.inr (.inr (.inl (Qr hg))))
 ·exact Bj f fun g hg=>hk g (f.lt g hg).2 (.inr (.inr (.inr (.inl (Qr hg)))))
 ·exact Bj l fun g hg=>hk g (l.lt g hg).2 (.inr (.inr (.inr (.inr (Qr hg)))))
theorem Has.same{w w':Wq}{B lo:Nat}{Z:Nat->Prop}{M:Mm}(h:Has Xb w B lo Z M)(hz:w.heap.size<=w'.heap.size)(hk:∀ k,k<w.heap.size->Z k->w'.heap[k]?=w.heap[k]?):Has Xb w' B lo Z M:=by
 obtain⟨aS,aH,aF,aL,cS,cH,cF,cL,m,hf⟩:=h
 exact⟨aS,aH,aF,aL,cS,cH,cF,cL,m.same hz (fun k h1 h2=>hk k h1 (hf k h2)),hf⟩
theorem Has.below{w w':Wq}{B lo:Nat}{Z:Nat->Prop}{M:Mm}(h:Has Xb w B lo Z M)(hb:Below w.heap.size w w'):Has Xb w' B lo Z M:=h.same hb.size fun k h1 _=>hb.block k h1
theorem Has.fine{w w':Wq}{B lo:Nat}{Z Z':Nat->Prop}{M:Mm}(h:Has Xb w B lo Z M)(hf:Fine w w' Z')(hd:∀ k,k<w.heap.size->Z k->¬ Z' k):Has Xb w' B lo Z M:=h.same hf.size fun k h1 h2=>hf.block k h1 (hd k h1 h2)
theorem Has.mono{w:Wq}{B lo:Nat}{Z Z':Nat->Prop}{M:Mm}(h:Has Xb w B lo Z M)(hz:∀ k,k<w.heap.size->Z k->Z' k):Has Xb w B lo Z' M:=by
 obtain⟨aS,aH,aF,aL,cS,cH,cF,cL,m,hf⟩:=h
 refine⟨aS,aH,aF,aL,cS,cH,cF,cL,m,fun k hk=>hz k ?_ (hf k hk)⟩
 rcases hk with rfl|⟨ad,rfl,rfl⟩|⟨ad,rfl,rfl⟩|⟨ad,rfl,rfl⟩|⟨ad,rfl,rfl⟩
 ·exact lt_of_block m.box
 ·exact(m.c.s.lt _ rfl).2
 ·exact(m.c.h.lt _ rfl).2
 ·exact(m.c.f.lt _ rfl).2
 ·exact(m.c.l.lt _ rfl).2
theorem Has.up{w:Wq}{B lo:Nat}{Z:Nat->Prop}{M:Mm}(h:Has Xb w B lo Z M):Has Xb w B lo (Up w Z) M:=h.mono fun _ _ h=>.inl h
theorem Has.low{w:Wq}{B lo:Nat}{Z:Nat->Prop}{M:Mm}(h:Has Xb w B lo Z M):Has Xb w B lo (fun k=>k=B\/lo<=k) M:=by
 obtain⟨aS,aH,aF,aL,cS,cH,cF,cL,m,hf⟩:=h
 refine⟨aS,aH,aF,aL,cS,cH,cF,cL,m,fun k hk=>?_⟩
 rcases hk with rfl|⟨ad,rfl,rfl⟩|⟨ad,rfl,rfl⟩|⟨ad,rfl,rfl⟩|⟨ad,rfl,rfl⟩
 ·exact .inl rfl
 ·exact .inr (m.c.s.lt _ rfl).1
 ·exact .inr (m.c.h.lt _ rfl).1
 ·exact .inr (m.c.f.lt _ rfl).1
 ·exact .inr (m.c.l.lt _ rfl).1
theorem Qu{M:Mm}(h:Ok M):M.free.length<=12:=by
 have h1:=few' M.slots.length M.free h.nodup (fun a ha=>by
  have:=(Ih _ _).1 (h.free a ha)
  exact⟨this.1,this.2.1⟩)
 have:=h.ns
 omega
theorem Sj{B:Nat}{aS aH aF aL aF':Option Addr}{Z:Nat->Prop}{n:Nat}(hf:∀ k,Ac B aS aH aF aL k->Z k)(hn:∀ ad,aF'=some ad->n<=ad.block):∀ k,Ac B aS aH aF' aL k->Z k\/n<=k:=by
 rintro k (rfl|h|h|⟨ad,e,rfl⟩|h)
 ·exact .inl (hf _ (.inl rfl))
 ·exact .inl (hf _ (.inr (.inl h)))
 ·exact .inl (hf _ (.inr (.inr (.inl h))))
 ·exact .inr (hn ad e)
 ·exact .inl (hf _ (.inr (.inr (.inr (.inr h)))))
theorem a4q{M:Mm}{w:Wq}{B lo:Nat}{Z:Nat->Prop}{i:Int}(H:Has Xb w B lo Z M)(hM:Ok M)(hi:Dc M i=true) :
  Calls Pg 201 #[.pointer (some ⟨B,0,none⟩),O J i] w fun e w'=>e=.returned (.bool (Qk M i))/\Has Xb w' B lo (Up w Z) (holdN M i)/\Fine w w' Z:=by
 have hr:=Ou hM hi
 obtain⟨i0,i1⟩:=Eg.1 hi
 have H':=H
 obtain⟨aS,aH,aF,aL,cS,cH,cF,cL,m,hf⟩:=H
 by_cases hc:Qk M i=true
 ·have hc':=Ql.1 hc
  obtain⟨j,rfl⟩:∃ j:Nat,i=j:=⟨i.toNat,by omega⟩
  have hj:j<M.slots.length:=by omega
  obtain⟨gS,rfl,oS,-,-,-⟩:=Bh m.c.s (by omega)
  have hrr:=Jj M j hj
  rw[hrr] at hc'
  obtain⟨c0,-,-,-,-,-,fz⟩:=Df m.c.s hj
  refine(a7t w B gS _ j cS _ _ _ _ _ m.box hj c0 (fz _) hc'.1 hc'.2).mono ?_
  rintro e w' ⟨rfl,rfl⟩
  have mt:=turned m hj (M.slots[j].refs+1)
  have e1:holdN M j=a7s M j:=by unfold holdN;rw[if_pos hc]
  rw[e1,hc]
  rw[<- hrr] at mt ⊢
  exact⟨rfl,⟨_,_,_,_,_,_,_,_,mt,fun k hk=>.inl (hf k hk)⟩,(Fine.refl w Z).set (.inl (hf gS (.inr (.inl ⟨_,rfl,rfl⟩)))) _ _⟩
 ·have hc0:Qk M i=false:=by simpa using hc
  have hn:¬ (0<Dy M i/\Dy M i<1000):=fun h=>hc (Ql.2 h)
  refine(a4p M w B lo aS aH aF aL cS cH cF cL i m i0 i1 (by omega)).mono ?_
  rintro e w' ⟨rfl,rfl⟩
  have e1:holdN M i=M:=by unfold holdN;rw[if_neg hc]
  rw[e1,hc0]
  exact⟨rfl,H'.up,.refl _ _⟩
theorem a1q{M:Mm}{w:Wq}{B lo:Nat}{Z:Nat->Prop}{i:Int}(H:Has Xb w B lo Z M)(hM:Ok M)(hi:Dc M i=true) :
  Calls Pg 116 #[.pointer (some ⟨B,0,none⟩),O J i] w fun e w'=>e=.returned (.bool (Qk M i))/\Has Xb w' B lo (Up w Z) (holdN M i)/\Fine w w' Z:=by
 have hr:=Ou hM hi
 obtain⟨i0,i1⟩:=Eg.1 hi
 have H':=H
 obtain⟨aS,aH,aF,aL,cS,cH,cF,cL,m,hf⟩:=H
 have m1:=m.m1
 by_cases hc:Qk M i=true
 ·have hc':=Ql.1 hc
  obtain⟨j,rfl⟩:∃ j:Nat,i=j:=⟨i.toNat,by omega⟩
  have hj:j<M.slots.length:=by omega
  obtain⟨gS,rfl,oS,-,-,-⟩:=Bh m.c.s (by omega)
  have hrr:=Jj M j hj
  rw[hrr] at hc'
  obtain⟨c0,-,-,-,-,-,fz⟩:=Df m.c.s hj
  refine(a5t w B gS _ j cS _ _ _ _ _ m.box hj (by omega) c0 (fz _) hc'.1 hc'.2).mono ?_
  rintro e w' ⟨rfl,rfl⟩
  have mt:=turned m hj (M.slots[j].refs+1)
  have e1:holdN M j=a7s M j:=by unfold holdN;rw[if_pos hc]
  rw[e1,hc]
  rw[<- hrr] at mt ⊢
  exact⟨rfl,⟨_,_,_,_,_,_,_,_,mt,fun k hk=>.inl (hf k hk)⟩,(Fine.refl w Z).set (.inl (hf gS (.inr (.inl ⟨_,rfl,rfl⟩)))) _ _⟩
 ·have hc0:Qk M i=false:=by simpa using hc
  have hn:¬ (0<Dy M i/\Dy M i<1000):=fun h=>hc (Ql.2 h)
  refine(a1p M w B lo aS aH aF aL cS cH cF cL i m i0 i1 (by omega)).mono ?_
  rintro e w' ⟨rfl,rfl⟩
  have e1:holdN M i=M:=by unfold holdN;rw[if_neg hc]
  rw[e1,hc0]
  exact⟨rfl,H'.up,.refl _ _⟩
theorem Zn{M:Mm}{w:Wq}{B lo:Nat}{Z:Nat->Prop}{i:Int}(H:Has Xb w B lo Z M)(hM:Ok M)(hi:Dc M i=true) :
  Calls Pg 197 #[.pointer (some ⟨B,0,none⟩),O J i] w fun e w'=>e=.returned (.bool (decide (Dy M i≠0)))/\Has Xb w' B lo (Up w Z) (Em M i)/\Fine w w' Z:=by
 have hr:=Ou hM hi
 have hfew:=Qu hM
 obtain⟨i0,i1⟩:=Eg.1 hi
 have H':=H
 obtain⟨aS,aH,aF,aL,cS,cH,cF,cL,m,hf⟩:=H
 by_cases h0:Dy M i=0
 ·refine(a8t M w B lo aS aH aF aL cS cH cF cL i m i0 i1 h0).mono ?_
  rintro e w' ⟨rfl,rfl⟩
  have e1:Em M i=M:=by unfold Em;rw[if_pos h0]
  rw[e1]
  exact⟨by simp[h0],H'.up,.refl _ _⟩
 have ed:decide (Dy M i≠0)=true:=by simp[h0]
 have e0:Em M i=Ub M i:=by unfold Em;rw[if_neg h0]
 rw[ed,e0]
 obtain⟨j,rfl⟩:∃ j:Nat,i=j:=⟨i.toNat,by omega⟩
 have hj:j<M.slots.length:=by omega
 obtain⟨gS,rfl,oS,-,-,-⟩:=Bh m.c.s (by omega)
 have hZ:Z gS:=hf gS (.inr (.inl ⟨_,rfl,rfl⟩))
 have hrr:=Jj M j hj
 obtain⟨c0,-,-,-,-,-,fz⟩:=Df m.c.s hj
 by_cases hl:Dy M j=1
 ·rw[<- hrr,hl] at c0
  have mt:=turned m hj 0
  refine(a8u w B gS _ j cS cF aF M.free _ _ _ m.box hj c0 (fz _) m.a8g mt.at.f (by omega)).mono ?_
  rintro e w' ⟨rfl,a',c',w1,hb,ho,rfl⟩
  have e1:Ub M j = { M with slots:=J9 M j 0,free:=M.free ++ [(j:Int)] }:=by simp[Ub,hl]
  have hlen:(M.free ++ [(j:Int)]).length=M.free.length+1:=by simp
  rw[e1]
  have hz:(w.setCell ⟨gS,j*6,none⟩ (O J 0)).heap.size=w.heap.size:=World.size_setCell ..
  have hi':=Py ho
  rw[<- hz] at hb ho
  have mg:=mt.Cm (M.free ++ [(j:Int)]) (by rw[hlen];omega) hb hlen ho
  refine⟨rfl,⟨_,_,_,_,_,_,_,_,mg,Sj hf hi'⟩,?_⟩
  exact(((Fine.refl w Z).set (.inl hZ) (j*6) (O J 0)).below hb).set (.inl (hf B (.inl rfl))) _ _
 ·have hr2:1<M.slots[j].refs:=by omega
  refine(a8v w B gS _ j cS _ _ _ _ _ m.box hj c0 (fz _) hr2 (by omega)).mono ?_
  rintro e w' ⟨rfl,rfl⟩
  have e1:Ub M j = { M with slots:=J9 M j (Dy M j - 1) }:=by simp[Ub,hl]
  rw[e1]
  have mt:=turned m hj (M.slots[j].refs - 1)
  rw[<- hrr] at mt ⊢
  exact⟨rfl,⟨_,_,_,_,_,_,_,_,mt,fun k hk=>.inl (hf k hk)⟩,(Fine.refl w Z).set (.inl hZ) _ _⟩
theorem L9{M:Mm}{w:Wq}{B lo:Nat}{Z:Nat->Prop}{i:Int}(H:Has Xb w B lo Z M)(hM:Ok M)(hi:Dc M i=true) :
  Calls Pg 72 #[.pointer (some ⟨B,0,none⟩),O J i] w fun e w'=>e=.returned (.tuple #[])/\Has Xb w' B lo (Up w Z) (Em M i)/\Fine w w' Z:=by
 have hr:=Ou hM hi
 have hfew:=Qu hM
 obtain⟨i0,i1⟩:=Eg.1 hi
 have H':=H
 obtain⟨aS,aH,aF,aL,cS,cH,cF,cL,m,hf⟩:=H
 have m1:=m.m1
 obtain⟨j,rfl⟩:∃ j:Nat,i=j:=⟨i.toNat,by omega⟩
 have hj:j<M.slots.length:=by omega
 obtain⟨gS,rfl,oS,-,-,-⟩:=Bh m.c.s (by omega)
 have hZ:Z gS:=hf gS (.inr (.inl ⟨_,rfl,rfl⟩))
 have hrr:=Jj M j hj
 obtain⟨c0,-,-,-,-,-,fz⟩:=Df m.c.s hj
 by_cases h0:Dy M j=0
 ·rw[<- hrr,h0] at c0
  refine(a5x w B gS _ j cS _ _ _ _ m.box hj (by omega) c0).mono ?_
  rintro e w' ⟨rfl,rfl⟩
  have e1:Em M j=M:=by unfold Em;rw[if_pos h0]
  rw[e1]
  exact⟨rfl,H'.up,.refl _ _⟩
 have e0:Em M j=Ub M j:=by unfold Em;rw[if_neg h0]
 rw[e0]
 by_cases hl:Dy M j=1
 ·rw[<- hrr,hl] at c0
  have mt:=turned m hj 0
  refine(a5v w B gS _ j lo cS cF aF M.free _ _ _ m.box hj (by omega) c0 (fz _) m.a8g mt.at.f (by omega)).mono ?_
  rintro e w' ⟨rfl,a',c',w1,hb,ho,rfl⟩
  have e1:Ub M j = { M with slots:=J9 M j 0,free:=M.free ++ [(j:Int)] }:=by simp[Ub,hl]
  have hlen:(M.free ++ [(j:Int)]).length=M.free.length+1:=by simp
  rw[e1]
  have hz:(w.setCell ⟨gS,j*6,none⟩ (O J 0)).heap.size=w.heap.size:=World.size_setCell ..
  have hi':=Py ho
  rw[<- hz] at hb ho
  have mg:=mt.Cm (M.free ++ [(j:Int)]) (by rw[hlen];omega) hb hlen ho
  refine⟨rfl,⟨_,_,_,_,_,_,_,_,mg,Sj hf hi'⟩,?_⟩
  exact(((Fine.refl w Z).set (.inl hZ) (j*6) (O J 0)).below hb).set (.inl (hf B (.inl rfl))) _ _
 ·have hr2:1<M.slots[j].refs:=by omega
  refine(a5w w B gS _ j cS _ _ _ _ _ m.box hj (by omega) c0 (fz _) hr2 (by omega)).mono ?_
  rintro e w' ⟨rfl,rfl⟩
  have e1:Ub M j = { M with slots:=J9 M j (Dy M j - 1) }:=by simp[Ub,hl]
  rw[e1]
  have mt:=turned m hj (M.slots[j].refs - 1)
  rw[<- hrr] at mt ⊢
  exact⟨rfl,⟨_,_,_,_,_,_,_,_,mt,fun k hk=>.inl (hf k hk)⟩,(Fine.refl w Z).set (.inl hZ) _ _⟩
end
section
open Go.Deep
def eqI(l1 l2:List Int):Bool:=decide (l1=l2)
def eqS(l1 l2:List Sl):Bool:=l1.length==l2.length && (l1.zip l2).all fun p=>a2e p.1 p.2
theorem b0v{l1 l2:List Int}(h:l1.length≠l2.length):eqI l1 l2=false:=by
 simp only[eqI,decide_eq_false_iff_not]
 rintro rfl
 exact h rfl
theorem b3i{l1 l2:List Int}{k:Nat}(h1:k<l1.length)(h2:k<l2.length)(h:l1[k] ≠ l2[k]):eqI l1 l2=false:=by
 simp only[eqI,decide_eq_false_iff_not]
 rintro rfl
 exact h rfl
theorem b0u{l1 l2:List Int}(hl:l1.length=l2.length)(h:∀ j,j<l1.length->l1[j]?=l2[j]?):eqI l1 l2=true:=by
 simp only[eqI,decide_eq_true_eq]
 apply List.ext_getElem?
 intro j
 by_cases hj:j<l1.length
 ·exact h j hj
 ·rw[List.getElem?_eq_none (by omega),List.getElem?_eq_none (by omega)]
theorem a3a(l1 l2:List Int):eqI l1 l2=true ↔ l1=l2:=by simp[eqI]
theorem Y4(l1 l2:List Sl):eqS l1 l2=true ↔ l1=l2:=by
 induction l1 generalizing l2 with
 | nil=>cases l2 <;> simp[eqS]
 | cons x l1 ih =>
  cases l2 with
  | nil=>simp[eqS]
  | cons y l2 =>
   have:=ih l2
   simp only[eqS,Bool.and_eq_true,beq_iff_eq] at this
   simp only[eqS,List.length_cons,List.zip_cons_cons,List.all_cons,Bool.and_eq_true,beq_iff_eq,Vu,List.cons.injEq,<- this]
   constructor
   ·rintro ⟨h1,h2,h3⟩;exact⟨h2,by omega,h3⟩
   ·rintro ⟨h1,h2,h3⟩;exact⟨by omega,h1,h3⟩
theorem Xi{l1 l2:List Sl}(h:l1≠l2):eqS l1 l2=false:=by
 rw[Bool.eq_false_iff]
 intro hh
 exact h ((Y4 _ _).1 hh)
theorem Js(w:Wq)(q:Nat):Below w.heap.size w (w.drewN q):=⟨rfl,rfl,rfl,Nat.le_refl _,fun _ _=>rfl⟩
theorem Gg{a b:Bool}(h:a=b):Ending.returned (.bool a)=.returned (.bool b):=by rw[h]
theorem Lh(a1 a2:Option Addr)(c1 c2:Nat)(l1 l2:List Int)(w:Wq)(r1:Cj w a1 c1 l1)(r2:Cj w a2 c2 l2) :
  Calls Pg 24 #[Y a1 l1.length c1,Y a2 l2.length c2] w fun e w'=>e=.returned (.bool (eqI l1 l2))/\Below w.heap.size w w':=by
 have m1:=r1.max;have m2:=r2.max
 have n1:l1.length<=9223372036854775807:=by omega
 have n2:l2.length<=9223372036854775807:=by omega
 by_cases hl:l1.length=l2.length
 rotate_left
 ·have HV:Hid (eqI l1 l2=false):=b0v hl
  have hb:((l1.length:Int) != (l2.length:Int))=true:=by rw[bne_iff_ne];omega
  go_enter Tryz.func24,Tryz.ntmps24
  go_wp2
  go_ret
  exact⟨Gg HV.out.symm,Below.refl _ _⟩
 ·have HL:Hid (l1.length=l2.length):=hl
  have hb:((l1.length:Int) != (l2.length:Int))=false:=by rw[hl];simp
  clear hl
  have HZ1:Hid _:=r1.at_
  have HZ2:Hid _:=r2.at_
  clear r1 r2
  go_enter Tryz.func24,Tryz.ntmps24
  go_wp2
  go_loopw [13] (fun i wr=>∃ k q:Nat,k<=l1.length/\i=O J k/\wr=w.drewN q/\Hid (∀ j,j<k->l1[j]?=l2[j]?)) (fun i _=>l1.length - (intOf i).toNat)
  case atStart=>exact⟨0,0,Nat.zero_le _,rfl,rfl,fun j hj=>absurd hj (Nat.not_lt_zero _)⟩
  case round =>
   obtain⟨k,q,hk,rfl,rfl,HE⟩:=hrel
   by_cases hlt:k<l1.length
   ·have hlt2:k<l2.length:=by have:=HL.out;omega
    rcases HZ1.out with h0|⟨b1,o1,rfl,hc1⟩
    ·omega
    rcases HZ2.out with h0|⟨b2,o2,rfl,hc2⟩
    ·omega
    have d1:(w.drewN q).cell? ⟨b1,o1+k,none⟩=some (O J l1[k]):=hc1 k hlt
    have d2:(w.drewN q).cell? ⟨b2,o2+k,none⟩=some (O J l2[k]):=hc2 k hlt2
    clear hc1 hc2
    generalize hwq:w.drewN q=wq at d1 d2 ⊢
    have HWQ:Hid _:=hwq
    clear hwq
    generalize hx:l1[k]=x at d1
    generalize hy:l2[k]=y at d2
    have HX:Hid (l1[k]=x/\l2[k]=y):=⟨hx,hy⟩
    clear hx hy
    by_cases hxy:x=y
    ·subst hxy
     have HV:Hid (∀ j,j<k+1->l1[j]?=l2[j]?):=fun j hj=>by
      by_cases e:j=k
      ·subst e
       rw[List.getElem?_eq_getElem hlt,List.getElem?_eq_getElem hlt2,HX.out.1,HX.out.2]
      ·exact HE.out j (by omega)
     go_wp2_with fail
     go_quiet (fail)
     go_wp2
     go_roundw
     case rel=>exact⟨k+1,q+nq,by omega,by go_num,by rw[<- HWQ.out,World.drewN_drewN],HV⟩
     case measure=>simp[intOf];omega
    ·have HV:Hid (eqI l1 l2=false):=b3i hlt hlt2 (by rw[HX.out.1,HX.out.2];exact hxy)
     have hn:(x != y)=true:=by simpa using hxy
     go_wp2_with fail
     go_quiet (fail)
     go_wp2
     go_ret
     exact⟨Gg HV.out.symm,by rw[<- HWQ.out,World.drewN_drewN];exact Js _ _⟩
   ·have HV:Hid (eqI l1 l2=true):=b0u HL.out (fun j hj=>HE.out j (by omega))
    go_wp2
    go_ret
    exact⟨Gg HV.out.symm,Js _ _⟩
theorem a3e(a b c d:Int)(w:Wq):(Op.equalIn 9999 30 (.agg #[O J a,O J b]) (.agg #[O J c,O J d])).run Pg w=.ok (a==c && b==d) w:=by
 have u3:=Tryz.underlying3
 have a3:=Tryz.isAgg3
 have z3:=Tryz.sizeOf3
 have hS:Pg.underlying 30=some (.struct (Pg.fieldsOf 30)):=by kernel_rfl
 have hp:Pg.stoodInHeld 30=false:=by kernel_rfl
 rw[show (9999:Nat)=9998+1 from rfl,run_equalIn_agg w 9998 30 _ _ hS hp]
 simp only[Program.fieldsOf,Tryz.underlying30]
 go_simp
 by_cases h1:a=c <;> by_cases h2:b=d <;> simp[h1,h2]
theorem b4f(x y:Sl)(w:Wq):(Op.equalIn 10000 64 (.agg #[O J x.refs,O J x.a,O J x.b,O J x.unt,.bool x.inn,O J x.next]) (.agg #[O J y.refs,O J y.a,O J y.b,O J y.unt,.bool y.inn,O J y.next])).run Pg w=.ok (a2e x y) w:=by
 have u3:=Tryz.underlying3
 have a3:=Tryz.isAgg3
 have z3:=Tryz.sizeOf3
 have u4:=Tryz.underlying4
 have a4:=Tryz.isAgg4
 have z4:=Tryz.sizeOf4
 have a37:=Tryz.isAgg30
 have z37:=Tryz.sizeOf30
 have k9:=a3e
 have hS:Pg.underlying 64=some (.struct (Pg.fieldsOf 64)):=by kernel_rfl
 have hp:Pg.stoodInHeld 64=false:=by kernel_rfl
 rw[show (10000:Nat)=9999+1 from rfl,run_equalIn_agg w 9999 64 _ _ hS hp]
 simp only[Program.fieldsOf,Tryz.underlying64]
 clear hS
 go_simp
 unfold a2e
 by_cases h1:x.refs=y.refs <;> by_cases h2:x.a=y.a <;> by_cases h3:x.b=y.b <;> by_cases h4:x.unt=y.unt <;> by_cases h5:x.inn=y.inn <;> by_cases h6:x.next=y.next <;> simp[h1,h2,h3,h4,h5,h6]
theorem b3j{l1 l2:List Sl}{k:Nat}(h1:k<l1.length)(h2:k<l2.length)(h:l1[k] ≠ l2[k]):eqS l1 l2=false :=
 Xi (by rintro rfl;exact h rfl)
theorem b0x{l1 l2:List Sl}(hl:l1.length=l2.length)(h:∀ j,j<l1.length->l1[j]?=l2[j]?):eqS l1 l2=true:=by
 rw[Y4]
 apply List.ext_getElem?
 intro j
 by_cases hj:j<l1.length
 ·exact h j hj
 ·rw[List.getElem?_eq_none (by omega),List.getElem?_eq_none (by omega)]
theorem a0t(a1 a2:Option Addr)(c1 c2:Nat)(l1 l2:List Sl)(w:Wq)(r1:Ic w a1 c1 l1)(r2:Ic w a2 c2 l2) :
  Calls Pg 75 #[Y a1 l1.length c1,Y a2 l2.length c2] w fun e w'=>e=.returned (.bool (eqS l1 l2))/\Below w.heap.size w w':=by
 have m1:=r1.max;have m2:=r2.max
 have n1:l1.length<=9223372036854775807:=by omega
 have n2:l2.length<=9223372036854775807:=by omega
 by_cases hl:l1.length=l2.length
 rotate_left
 ·have HV:Hid (eqS l1 l2=false):=Xi (by rintro rfl;exact hl rfl)
  have hb:((l1.length:Int) != (l2.length:Int))=true:=by rw[bne_iff_ne];omega
  go_enter Tryz.func75,Tryz.ntmps75
  go_wp2
  go_ret
  exact⟨Gg HV.out.symm,Below.refl _ _⟩
 ·have HL:Hid (l1.length=l2.length):=hl
  have hb:((l1.length:Int) != (l2.length:Int))=false:=by rw[hl];simp
  clear hl
  have HZ1:Hid _:=r1.at_
  have HZ2:Hid _:=r2.at_
  clear r1 r2
  go_enter Tryz.func75,Tryz.ntmps75
  go_wp2
  go_loopw [13] (fun i wr=>∃ k q:Nat,k<=l1.length/\i=O J k/\wr=w.drewN q/\Hid (∀ j,j<k->l1[j]?=l2[j]?)) (fun i _=>l1.length - (intOf i).toNat)
  case atStart=>exact⟨0,0,Nat.zero_le _,rfl,rfl,fun j hj=>absurd hj (Nat.not_lt_zero _)⟩
  case round =>
   obtain⟨k,q,hk,rfl,rfl,HE⟩:=hrel
   by_cases hlt:k<l1.length
   ·have hlt2:k<l2.length:=by have:=HL.out;omega
    rcases HZ1.out with h0|⟨b1,o1,rfl,hc1⟩
    ·omega
    rcases HZ2.out with h0|⟨b2,o2,rfl,hc2⟩
    ·omega
    obtain⟨x0,x1,x2,x3,x4,x5⟩:=hc1 k hlt
    obtain⟨y0,y1,y2,y3,y4,y5⟩:=hc2 k hlt2
    rw[<- World.cell?_drewN (n:=q)] at x0 x1 x2 x3 x4 x5 y0 y1 y2 y3 y4 y5
    clear hc1 hc2
    generalize hwq:w.drewN q=wq at x0 x1 x2 x3 x4 x5 y0 y1 y2 y3 y4 y5 ⊢
    have HWQ:Hid _:=hwq
    clear hwq
    generalize hx:l1[k]=x at x0 x1 x2 x3 x4 x5
    generalize hy:l2[k]=y at y0 y1 y2 y3 y4 y5
    have HX:Hid (l1[k]=x/\l2[k]=y):=⟨hx,hy⟩
    clear hx hy
    have se:=b4f x y
    cases hxy:a2e x y
    ·have HV:Hid (eqS l1 l2=false):=b3j hlt hlt2 (by rw[HX.out.1,HX.out.2];intro e;rw[e,a6b] at hxy;cases hxy)
     go_wp2_with fail
     go_quiet (fail)
     go_wp2
     go_ret
     exact⟨Gg HV.out.symm,by rw[<- HWQ.out,World.drewN_drewN];exact Js _ _⟩
    ·have HV:Hid (∀ j,j<k+1->l1[j]?=l2[j]?):=fun j hj=>by
      by_cases e:j=k
      ·subst e
       rw[List.getElem?_eq_getElem hlt,List.getElem?_eq_getElem hlt2,HX.out.1,HX.out.2,(Vu x y).1 hxy]
      ·exact HE.out j (by omega)
     go_wp2_with fail
     go_quiet (fail)
     go_wp2
     go_roundw
     case rel=>exact⟨k+1,q+nq,by omega,by go_num,by rw[<- HWQ.out,World.drewN_drewN],HV⟩
     case measure=>simp[intOf];omega
   ·have HV:Hid (eqS l1 l2=true):=b0x HL.out (fun j hj=>HE.out j (by omega))
    go_wp2
    go_ret
    exact⟨Gg HV.out.symm,Js _ _⟩
end
end Go.Proofs.YthhgoenomehobaaGreat.mm
