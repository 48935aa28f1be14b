/- Parts. -/
import Derived.Test.YthhgoenomehobaaGreatP08
import Derived.Test.YthhgoenomehobaaGreatP06
import Derived.Deep.RegionWith
import Derived.Test.YthhgoenomehobaaGreatP09
import Derived.Deep.QuietTactic
import Derived.BigQuiet
namespace Go.Proofs.YthhgoenomehobaaGreat.mm
set_option maxRecDepth 100000
set_option linter.unusedVariables false
open Go.Value renaming int → O, slice → Y
open Go.IntKind renaming i64 → J
open Go.Proofs.Tryz renaming prog → Pg
open Go renaming World → Wq
set_option maxHeartbeats 6400000
section
open Go.ChangeShapes Go.WideShapes Go.ChangeAt Go.RowKit
theorem a6k{S:List Sl}{k:Nat}{x:Int}(h:x<=0\/k=0):Ia S k x=[]/\Ld S k x=x:=by
 cases k with
 | zero=>exact⟨rfl,rfl⟩
 | succ k =>
  have:¬ 0<x:=by omega
  simp[Ia,Ld,this]
theorem walk_go{S:List Sl}{k:Nat}{x:Int}(h:0<x):Ia S (k+1) x=(x - 1) :: Ia S k (Rh S x)/\Ld S (k+1) x=Ld S k (Rh S x):=by
 simp[Ia,Ld,h]
theorem walk_any(F:Nat)(caps:Array Value)(M:Mm)(aS aH aF aL:Option Addr)(cS cH cF cL b:Nat)(w:Wq)(hok:Ok M)(hb:b<M.heads.length)(hF:∀ args W,(callFunc F args).run Pg W=.ok (.enter F args) W)(I:List Int->Wq->Prop)
  (start:I [] (w.alloc (.cells #[Y aS M.slots.length cS,Y aH M.heads.length cH,Y aF M.free.length cF,Y aL M.locks.length cL,O J M.now] 25)))
  (box:∀ l W,I l W->W.heap[w.heap.size]?=some (.cells #[Y aS M.slots.length cS,Y aH M.heads.length cH,Y aF M.free.length cF,Y aL M.locks.length cL,O J M.now] 25 (0,0)))
  (at_:∀ l W,I l W->At W aS aH aF aL cS cH cF cL M)
  (step:∀ l (a:Nat) W,I l W->a<M.slots.length->l.length<M.slots.length->Calls Pg F (#[O J a] ++ caps) W fun e W'=>e=.returned (.tuple #[])/\I (l ++ [(a:Int)]) W') :
  Calls Pg 99 #[.agg #[Y aS M.slots.length cS,Y aH M.heads.length cH,Y aF M.free.length cF,Y aL M.locks.length cL,O J M.now],O J b,.func (.func F) #[] caps] w fun e w'=>e=.returned (.bool (Rq M b))/\I (chL M b) w':=by
 have n0:=hok.ns
 have n1:=hok.nh
 obtain⟨R,hR⟩:∃ R,R=Rq M b:=⟨_,rfl⟩
 rw[<- hR]
 have HR:Hid (R=Rq M b):=hR
 clear hR
 obtain⟨LL,hL⟩:∃ LL,LL=chL M b:=⟨_,rfl⟩
 rw[<- hL]
 have HL:Hid (LL=chL M b):=hL
 clear hL
 have HB:Hid _:=box
 have HA:Hid _:=at_
 have HS:Hid _:=step
 have HI:Hid _:=start
 have HFn:Hid _:=hF
 have hA0:=HA.out _ _ HI.out
 rcases hA0.h.at_ with h0|⟨bh,oh,rfl,hch⟩
 ·omega
 have d0:=hch b hb
 clear box at_ step start hA0 hch hF
 go_enter Tryz.func99,Tryz.ntmps99
 go_wp2
 go_loopw [18,7] (fun i n wr=>∃ k:Nat,k<=M.slots.length/\i=O J k/\∃ (l:List Int) (x:Int),n=O J x/\x<=M.slots.length/\l.length=k/\Hid (chL M b=l++Ia M.slots (M.slots.length - k) x/\chE M b=Ld M.slots (M.slots.length - k) x)/\Hid (I l wr))
  (fun i _ _=>M.slots.length - (intOf i).toNat)
 case atStart =>
  have hh:=hok.a0x hb
  have he:Bf M b=M.heads[b]:=by simp[Bf,List.getD_eq_getElem?_getD,hb]
  rw[he] at hh
  refine⟨0,Nat.zero_le _,rfl,[],_,rfl,((Aj _ _ _).1 hh.2).2,rfl,?_,HI⟩
  rw[<- he]
  exact⟨rfl,rfl⟩
 case round =>
  obtain⟨k,hk,rfl,l,x,rfl,hx,hl,HE,HW⟩:=hrel
  have hbx:=HB.out _ _ HW.out
  obtain⟨q0,q1,q2,q3,q4,f0,f1,f2,f3,f4,qs⟩:=Af hbx
  clear hbx f0 f1 f2 f3 f4 d0
  have fin:(x<=0\/M.slots.length - k=0)->R=(x == -1 - (b:Int))/\LL=l:=fun h=>by
   have hs:=a6k (S:=M.slots) h
   have h1:=HE.out.1
   have h2:=HE.out.2
   rw[hs.1,List.append_nil] at h1
   rw[hs.2] at h2
   exact⟨by rw[HR.out,Rq,h2],by rw[HL.out,h1]⟩
  have HF:Hid _:=fin
  clear fin
  by_cases hlt:k<M.slots.length
  ·by_cases hx0:x<=0
   ·go_wp2_with (first
     | (go_at_call 140;refine(Ot _ _ hx0).mono ?_;rintro e w1 ⟨rfl,rfl⟩)
     | (go_at_call 108;refine(Ov _ _ (by omega) (by omega)).mono ?_;rintro e w1 ⟨rfl,rfl⟩))
    go_ret
    obtain⟨e1,e2⟩:=HF.out (.inl hx0)
    rw[e1,e2]
    exact⟨rfl,HW.out⟩
   ·obtain⟨j,rfl⟩:∃ j:Nat,x=(j:Int)+1:=⟨(x - 1).toNat,by omega⟩
    have hj:j<M.slots.length:=by omega
    have hj1:(0:Int)<(j:Int)+1:=by omega
    have HE2:Hid (chL M b=(l ++ [(j:Int)])++Ia M.slots (M.slots.length - (k+1)) M.slots[j].next/\chE M b=Ld M.slots (M.slots.length - (k+1)) M.slots[j].next):=by
     have hg:=walk_go (S:=M.slots) (k:=M.slots.length - (k+1)) hj1
     rw[show M.slots.length - (k+1)+1=M.slots.length - k by omega] at hg
     have hn:Rh M.slots ((j:Int)+1)=M.slots[j].next:=by
      unfold Rh
      rw[show ((j:Int)+1 - 1).toNat=j by omega,getD_lt _ _ hj]
     rw[hn] at hg
     refine⟨?_,by rw[HE.out.2,hg.2]⟩
     rw[HE.out.1,hg.1,List.append_assoc,show (j:Int)+1 - 1=j by omega]
     rfl
    have hnx:=((Aj _ _ _).1 (Ii (hok.slot _ (List.getElem_mem hj))).2.2.2).2
    clear HE
    go_wp2_with (first
     | (go_at_call 140;refine(Oq _ _ hj1 (by omega)).mono ?_;rw[show (j:Int)+1 - 1=j by omega];rintro e w1 ⟨rfl,rfl⟩))
    rw[HFn.out]
    refine(HS.out l j wr HW.out hj (by omega)).mono ?_
    rintro e w2 ⟨rfl,hI2⟩
    have HW2:Hid _:=hI2
    have hbx2:=HB.out _ _ hI2
    have hA2:=HA.out _ _ hI2
    clear q0 q1 q2 q3 q4 qs hI2
    obtain⟨q0,q1,q2,q3,q4,f0,f1,f2,f3,f4,qs⟩:=Af hbx2
    clear hbx2 f0 f1 f2 f3 f4
    rcases hA2.s.at_ with h0|⟨bs,os,rfl,hcs⟩
    ·omega
    have c5:=(hcs j hj).2.2.2.2.2
    clear hA2 hcs
    go_wp2
    go_roundw
    case rel=>exact⟨k+1,by omega,by go_num,_,_,rfl,hnx,by simp[hl],HE2,HW2⟩
    case measure=>simp[intOf];omega
  ·go_wp2_with (first
    | (go_at_call 108;refine(Ov _ _ (by omega) (by omega)).mono ?_;rintro e w1 ⟨rfl,rfl⟩))
   go_ret
   obtain⟨e1,e2⟩:=HF.out (.inr (by omega))
   rw[e1,e2]
   exact⟨rfl,HW.out⟩
end
section
open Go.ChangeShapes Go.WideShapes Go.ChangeAt Go.RowKit Go.Joins
structure Lst(w0:Wq)(B Yq:Nat)(t e:TypeId)(size:Nat)(ob:Array Value)(W:Wq)(n:Nat)(xs:List Value):Prop where
 var:∃ v,W.heap[B]?=some (.cells #[v] t (0,0))/\W.ownsRow (B+1) e size v n xs
 box:W.heap[Yq]?=some (.cells ob 25 (0,0))
 below:Below B w0 W
 ne:B≠Yq
theorem Ar{W:Wq}{B:Nat}{v:Value}{t:TypeId}(h:W.heap[B]?=some (.cells #[v] t (0,0))):W.cell? ⟨B,0,none⟩=some v/\W.frozen? ⟨B,0,none⟩=false/\B<W.heap.size :=
 ⟨by rw[cell_of_block h];rfl,unfrozen_of_block h _,lt_of_block h⟩
theorem Lst.step{w0 W w1:Wq}{B Yq:Nat}{t e:TypeId}{size n m:Nat}{ob:Array Value}{xs news:List Value}{v v':Value}{o1:Obj}(hB:W.heap[B]?=some (.cells #[v] t (0,0)))(ho:W.ownsRow (B+1) e size v n xs)
  (hY:W.heap[Yq]?=some (.cells ob 25 (0,0))) (hb:Below B w0 W) (hne:B≠Yq) (n1:e≠t) (n2:e≠25) (hg:(W.alloc o1).grownBy w1 v.ownBlock) (ho':w1.ownsRow (B+1) e size v' (n+m) (xs++news)) :
  Lst w0 B Yq t e size ob (w1.setCell ⟨B,0,none⟩ v') (n+m) (xs++news):=by
 have lB:=lt_of_block hB
 have lY:=lt_of_block hY
 have hvB:=own_ne ho hB n1
 have hvY:=own_ne ho hY n2
 have kB:w1.heap[B]?=some (.cells #[v] t (0,0)):=D6 hB hg hvB
 have kY:w1.heap[Yq]?=some (.cells ob 25 (0,0)):=D6 hY hg hvY
 have hu:∀ k,v.ownBlock=some k->B<=k:=fun k hk=>by
  have:=(ho.lt k hk).1
  omega
 refine⟨⟨v',?_,Jk ho' (own_ne ho' kB n1)⟩,(Below.heap_setCell _ _ _ _ (by dsimp only;omega)).trans kY,?_,hne⟩
 ·have:=block_setCell (i:=0) kB v'
  rw[this];rfl
 ·exact Gs hb hg hu (by omega) (Nat.le_refl _)
theorem app85(w0 W:Wq)(B Yq:Nat)(ob:Array Value)(l:List Int)(a:Int)(L:Lst w0 B Yq 23 3 1 ob W l.length (encI l))(hl:l.length<=12) :
  Calls Pg 139 #[O J a,.pointer (some ⟨B,0,none⟩)] W fun e W'=>e=.returned (.tuple #[])/\Lst w0 B Yq 23 3 1 ob W' (l ++ [a]).length (encI (l ++ [a])):=by
 obtain⟨i0,hi,hz0,hz1,hz2⟩:=info_parts iI
 obtain⟨⟨v,hB,ho⟩,hY,hb,hne⟩:=L
 obtain⟨ao,cap,rfl⟩:=Aq ho
 obtain⟨c0,f0,lB⟩:=Ar hB
 have HB:Hid _:=hB
 have HY:Hid _:=hY
 clear hB hY
 go_enter Tryz.func139,Tryz.ntmps139
 go_wp2_with (at_builtin;refine wpList_append_own_at _ rfl (.tmp 3) (.tmp 5) 23 rfl (B+1) 3 i0 (O J 0) 1 8 Tryz.underlying23 hi hz0 hz1 hz2 rfl (by first|decide|exact Ex.ne _ _ (by decide)) _ _ _ rfl (ho.alloc _) ⟨W.heap.size,0,none⟩ 1 1 [O J a] rfl rfl (cell_one_new _ _ _) (by intro u hu;simp at hu;subst hu;rfl) (by unfold maxLen;omega) (by omega) (by simp;omega) ?_;intro v2 w2 ho2 hg2 _ hloc2;obtain⟨g2,cap2,rfl⟩:=ownsRow_form ho2 (by omega);have HL:Hid _:=Lst.step HB.out ho HY.out hb hne (by first|decide|exact Ex.ne _ _ (by decide)) (by first|decide|exact Ex.ne _ _ (by decide)) hg2 ho2;obtain⟨d0,e0,lB2⟩:=Ar (D6 HB.out hg2 (own_ne ho HB.out (by first|decide|exact Ex.ne _ _ (by decide))));clear c0 f0 lB ho2 hg2 hloc2)
 go_end0
 refine⟨rfl,?_⟩
 have:=HL.out
 rw[show (l ++ [a]).length=l.length+1 by simp,show encI (l ++ [a])=encI l ++ [O J a] by simp[encI]]
 exact this
theorem fn85:∀ args W,(callFunc 139 args).run Pg W=.ok (.enter 139 args) W:=fun _ _=>by kernel_rfl
theorem Ox(S:List Sl):∀ (k:Nat) (n:Int),(Ia S k n).length<=k
 | 0,_=>by simp[Ia]
 | k+1,n=>by
  simp only[Ia]
  split
  ·have:=Ox S k (Rh S n);simp;omega
  ·simp
def Me(M:Mm)(b:Nat):Int:=if Rq M b then 0 else 4
def Kt(M:Mm)(b:Nat):List Int:=if Rq M b then chL M b else []
theorem Zv(M:Mm)(aS aH aF aL:Option Addr)(cS cH cF cL b:Nat)(w:Wq)(A:At w aS aH aF aL cS cH cF cL M)(hok:Ok M)(hb:b<M.heads.length) :
  Calls Pg 98 #[.agg #[Y aS M.slots.length cS,Y aH M.heads.length cH,Y aF M.free.length cF,Y aL M.locks.length cL,O J M.now],O J b] w fun e w' =>
   ∃ ao cap,e=.returned (.tuple #[Y ao (Kt M b).length cap,O J (Me M b)])/\Cj w' ao cap (Kt M b)/\Below w.heap.size w w':=by
 obtain⟨E0,hE0⟩:∃ E0,E0=Me M b:=⟨_,rfl⟩
 obtain⟨L0,hL0⟩:∃ L0,L0=Kt M b:=⟨_,rfl⟩
 rw[<- hE0,<- hL0]
 have HE0:Hid (E0=Me M b):=hE0
 have HL0:Hid (L0=Kt M b):=hL0
 clear hE0 hL0
 have n0:=hok.ns
 obtain⟨o1,ho1⟩:∃ o:Obj,o=.cells #[Y aS M.slots.length cS,Y aH M.heads.length cH,Y aF M.free.length cF,Y aL M.locks.length cL,O J M.now] 25:=⟨_,rfl⟩
 obtain⟨o2,ho2⟩:∃ o:Obj,o=.cells #[Y none 0 0] 23:=⟨_,rfl⟩
 have b0:Below w.heap.size w ((w.alloc o1).alloc o2):=below_alloc2 w o1 o2
 have HB0:Hid (((w.alloc o1).alloc o2).heap[w.heap.size]?=some o1):=by show _=_;rw[Below.heap_alloc _ _ _ (by simp),heap_alloc_new]
 have HV0:Hid (((w.alloc o1).alloc o2).heap[w.heap.size+1]?=some o2):=by
  have:=heap_alloc_new (w.alloc o1) o2
  rwa [show (w.alloc o1).heap.size=w.heap.size+1 by simp] at this
 have HZ0:Hid (((w.alloc o1).alloc o2).heap.size=w.heap.size+2):=by show _=_;simp
 have HA0:Hid _:=A.below b0
 have hmf:∀ (fn:Fn) (first cap:Array Value) (w:Wq),(Instr.makeFunc fn first cap).run Pg w=.ok (.func fn first cap) w:=fun _ _ _ _=>rfl
 go_enter Tryz.func98,Tryz.ntmps98
 go_wp2_with fail
 rw[<- ho1,<- ho2]
 generalize (w.alloc o1).alloc o2=W0 at *
 subst ho1 ho2
 have hstart:Lst W0 (w.heap.size+1) W0.heap.size 23 3 1 #[Y aS M.slots.length cS,Y aH M.heads.length cH,Y aF M.free.length cF,Y aL M.locks.length cL,O J M.now] (W0.alloc (.cells #[Y aS M.slots.length cS,Y aH M.heads.length cH,Y aF M.free.length cF,Y aL M.locks.length cL,O J M.now] 25)) ([]:List Int).length (encI []):=by
  have z:=HZ0.out
  refine⟨⟨Y none 0 0,?_,World.ownsRow_nil _ _ _ _⟩,heap_alloc_new _ _,(Below.refl _ _).alloc (by omega) _,by omega⟩
  rw[Below.heap_alloc _ _ _ (by omega)]
  exact HV0.out
 have HAw:Hid _:=A
 clear A
 refine(walk_any 139 #[.pointer (some ⟨w.heap.size+1,0,none⟩)] M aS aH aF aL cS cH cF cL b W0 hok hb fn85 (fun l W=>Lst W0 (w.heap.size+1) W0.heap.size 23 3 1 #[Y aS M.slots.length cS,Y aH M.heads.length cH,Y aF M.free.length cF,Y aL M.locks.length cL,O J M.now] W l.length (encI l)) hstart (fun l W h=>h.box) (fun l W h=>HAw.out.below (b0.trans (h.below.mono (by omega)))) ?_).mono ?_
 ·intro l a W hL ha hl
  exact app85 _ _ _ _ _ _ _ hL (by omega)
 rintro e w1 ⟨rfl,hL1⟩
 have HL1:Hid _:=hL1
 have HB1:Hid (Below w.heap.size w w1):=b0.trans (hL1.below.mono (by omega))
 obtain⟨⟨v,hv,ho⟩,-,-,-⟩:=hL1
 have hm:(chL M b).length<=12:=Nat.le_trans (Ox _ _ _) n0
 obtain⟨ao,cap,rfl,hrow⟩:=Cj.Kr ho (by omega)
 obtain⟨c0,f0,lB⟩:=Ar hv
 have HRow:Hid _:=hrow
 clear hv ho hrow HL1 hstart HB0 HV0 HZ0 HA0 b0
 cases hc:Rq M b
 ·have HV:Hid (E0=4/\L0=[]):=⟨HE0.out.trans (by unfold Me;rw[hc];rfl),HL0.out.trans (by unfold Kt;rw[hc];rfl)⟩
  go_wp2
  go_ret2
  refine⟨none,0,?_,?_,HB1.out⟩
  ·rw[HV.out.1,HV.out.2];rfl
  ·rw[HV.out.2];exact⟨by decide,by decide,fun _=>rfl,.inl rfl⟩
 ·have HV:Hid (E0=0/\L0=chL M b):=⟨HE0.out.trans (by unfold Me;rw[hc];rfl),HL0.out.trans (by unfold Kt;rw[hc];rfl)⟩
  go_wp2
  go_ret2
  refine⟨ao,cap,?_,?_,HB1.out⟩
  ·rw[HV.out.1,HV.out.2];rfl
  ·rw[HV.out.2];exact HRow.out
end
section
open Go.ChangeShapes Go.WideShapes Go.ChangeAt Go.RowKit Go.Joins Go.Maps
theorem Gj{M:Mm}{j:Nat}(h:j<M.slots.length):Aa M j=M.slots[j]:=by simp[Aa,List.getD_eq_getElem?_getD,h]
theorem Wu(M:Mm)(aS aH aF aL:Option Addr)(cS cH cF cL b j g:Nat)(all:List Int)(w:Wq)(A:At w aS aH aF aL cS cH cF cL M)(hok:Ok M)(hb:b<M.heads.length)(hj:j<M.slots.length)(hm:MapAt M w g all) :
  Calls Pg 125 #[.agg #[Y aS M.slots.length cS,Y aH M.heads.length cH,Y aF M.free.length cF,Y aL M.locks.length cL,O J M.now],O J b,O J j,.map (some g)] w fun e w'=>e=.returned (O J (I9 M b all j))/\Below w.heap.size w w':=by
 obtain⟨E0,hE0⟩:∃ E0,E0=I9 M b all j:=⟨_,rfl⟩
 rw[<- hE0]
 have HE0:Hid (E0=I9 M b all j):=hE0
 clear hE0
 have n0:=hok.ns
 have n1:=hok.nh
 have hgood:=Ii (hok.slot _ (List.getElem_mem hj))
 have hs:Aa M j=M.slots[j]:=Gj hj
 have HM:Hid (MapAt M w g all):=hm
 have gl:=hm.lt
 clear hm
 rcases A.s.at_ with h0|⟨bs,os,rfl,hc⟩
 ·omega
 obtain⟨c0,c1,c2,c3,c4,c5⟩:=hc j hj
 have lt:=cell_lt c0
 clear hc A
 generalize hsl:M.slots[j]=s at c0 c1 c2 c3 c4 c5
 rw[hsl] at hgood hs
 obtain⟨r,ka,kb,u,i,nx⟩:=s
 dsimp only at c0 c1 c2 c3 c4 c5 hgood
 have HSL:Hid (Aa M j=⟨r,ka,kb,u,i,nx⟩):=hs
 clear hsl hs
 have hkey:=hgood.2.2.1
 clear hgood
 have hbw:Below w.heap.size w ((w.alloc (.cells #[Y (some ⟨bs,os,none⟩) M.slots.length cS,Y aH M.heads.length cH,Y aF M.free.length cF,Y aL M.locks.length cL,O J M.now] 25)).alloc (.cells #[O J r,O J ka,O J kb,O J u,.bool i,O J nx] 64)):=below_alloc2 w _ _
 by_cases hr:r=0
 ·subst hr
  have HV:Hid (E0=5):=HE0.out.trans (by unfold I9;rw[HSL.out,if_pos (.inl rfl)])
  go_enter Tryz.func125,Tryz.ntmps125
  go_wp2
  go_ret
  exact⟨Ba HV.out.symm,hbw⟩
 have hr':(r==0)=false:=by simpa using hr
 cases i
 ·have HV:Hid (E0=5):=HE0.out.trans (by unfold I9;rw[HSL.out,if_pos (.inr rfl)])
  go_enter Tryz.func125,Tryz.ntmps125
  go_wp2
  go_ret
  exact⟨Ba HV.out.symm,hbw⟩
 have HC:Hid (E0=if Eo ka kb M.heads.length≠b then 4 else if hasK M all (ka,kb) then 6 else 0):=HE0.out.trans (by
  have hk:keyAt M j=(ka,kb):=by unfold keyAt;rw[HSL.out]
  unfold I9
  rw[hk,HSL.out]
  dsimp only
  rw[if_neg (by rintro (h|h);exact hr h;cases h)])
 have HK:Hid (E5 ka kb=true):=hkey
 clear hkey HE0
 go_enter Tryz.func125,Tryz.ntmps125
 go_wp2_with fail
 refine(X7 _ _ _ _ HK.out n1.1 n1.2).mono ?_
 rintro e w1 ⟨rfl,hb1⟩
 have hbx:Below w.heap.size w w1:=hbw.trans (hb1.mono (by simp;omega))
 have s1:w1.cell? ⟨w.heap.size+1,1,none⟩=some (O J ka):=((Bv hb1).1 _ _ (by simp)).trans (by simp)
 have s2:w1.cell? ⟨w.heap.size+1,2,none⟩=some (O J kb):=((Bv hb1).1 _ _ (by simp)).trans (by simp)
 have hl:=MapAt.look (MapAt.kept HM.out (hbx.block g gl)) HK.out
 clear hb1 hbw c0 c1 c2 c3 c4 c5
 by_cases hbb:Eo ka kb M.heads.length=b
 ·have HD:Hid (E0=if hasK M all (ka,kb) then 6 else 0):=HC.out.trans (by rw[if_neg (by simpa using hbb)])
  rw[hbb]
  have hbe:((b:Int) != (b:Int))=false:=by simp
  cases hh:hasK M all (ka,kb)
  ·rw[hh] at hl
   have HV:Hid (E0=0):=HD.out.trans (by rw[hh];rfl)
   clear HC HD
   go_wp2
   go_ret
   exact⟨Ba HV.out.symm,hbx⟩
  ·rw[hh] at hl
   have HV:Hid (E0=6):=HD.out.trans (by rw[hh];rfl)
   clear HC HD
   go_wp2
   go_ret
   exact⟨Ba HV.out.symm,hbx⟩
 ·have hbe:(Eo ka kb M.heads.length != (b:Int))=true:=by simpa using hbb
  have HV:Hid (E0=4):=HC.out.trans (by rw[if_pos hbb])
  clear HC
  generalize Eo ka kb M.heads.length=q at *
  go_wp2
  go_ret
  exact⟨Ba HV.out.symm,hbx⟩
end
section
open Go.ChangeShapes Go.WideShapes Go.ChangeAt Go.RowKit Go.Joins Go.Maps
theorem a0i{S:List Sl}{N:Nat}(hs:∀ s∈S,s.next<=N):∀ (k:Nat) (n:Int),n<=N->∀ a∈Ia S k n,0<=a/\a<N
 | 0,_,_,_,ha=>by cases ha
 | k+1,n,hn,a,ha=>by
  simp only[Ia] at ha
  split at ha
  ·rename_i h0
   rcases List.mem_cons.1 ha with rfl|ha
   ·omega
   ·refine a0i hs k (Rh S n) ?_ a ha
    unfold Rh
    by_cases hx:(n - 1).toNat<S.length
    ·rw[getD_lt S _ hx];exact hs _ (List.getElem_mem hx)
    ·rw[List.getD_eq_getElem?_getD,List.getElem?_eq_none (by omega)];show (0:Int)<=N;omega
  ·cases ha
theorem Ok.chIn{M:Mm}(h:Ok M){b:Nat}(hb:b<M.heads.length):∀ a∈chL M b,0<=a/\a<M.slots.length :=
 a0i (fun s hs=>((Aj _ _ _).1 (Ii (h.slot s hs)).2.2.2).2) _ _ ((Aj _ _ _).1 (h.a0x hb).2).2
theorem a6y{w:Wq}{g o:Nat}{es:Array MapEntry}{clock:Nat}(h:w.heap[g]?=some (.map es clock)):w.cell? ⟨g,o,none⟩=none:=by
 unfold World.cell?
 rw[h]
theorem Cj.turn{w w':Wq}{ao:Option Addr}{cap g:Nat}{l:List Int}{es:Array MapEntry}{clock:Nat}(r:Cj w ao cap l)(hg:w.heap[g]?=some (.map es clock))(h:∀ k,k<w.heap.size->k≠g->w'.heap[k]?=w.heap[k]?):Cj w' ao cap l:=by
 refine⟨r.le,r.max,r.nil,?_⟩
 rcases r.at_ with h0|⟨b,o,e,hc⟩
 ·exact .inl h0
 ·refine .inr ⟨b,o,e,fun i hi=>?_⟩
  have hne:b≠g:=by
   rintro rfl
   have:=hc i hi
   rw[a6y hg] at this
   cases this
  rw[World.cell?_of_block (a:=⟨b,o+i,none⟩) (h b (cell_lt (hc i hi)) hne)]
  exact hc i hi
theorem MapAt.blk{M:Mm}{w:Wq}{g:Nat}{l:List Int}(h:MapAt M w g l):∃ es clock,w.heap[g]?=some (.map es clock):=by
 obtain⟨n,hn,D,⟨es,clock,hg,F,hs,hD⟩,hat⟩:=h
 exact⟨es,clock,hg⟩
theorem Oh(M:Mm):∀ b:Nat,(C9 M b).length<=b*M.slots.length
 | 0=>by simp[C9]
 | b+1=>by
  rw[Ie,List.length_append,Nat.succ_mul]
  have:=Oh M b
  have:(chL M b).length<=M.slots.length:=Ox _ _ _
  omega
def MapIs(M:Mm)(Z:Int)(lo:Nat)(w:Wq)(v:Value):Prop:=(Z≠0->v=.map none)/\(Z=0->∃ g,v=.map (some g)/\lo<=g/\MapAt M w g (Qg M))
theorem a1g(M:Mm)(aS aH aF aL:Option Addr)(cS cH cF cL:Nat)(w:Wq)(A:At w aS aH aF aL cS cH cF cL M) :
  Calls Pg 76 #[.agg #[.slice aS M.slots.length cS,.slice aH M.heads.length cH,.slice aF M.free.length cF,.slice aL M.locks.length cL,.int .i64 M.now]] w fun e w'=>∃ v,e=.returned (.tuple #[v,.int .i64 (Kq M)])/\MapIs M (Kq M) w.heap.size w' v/\Below w.heap.size w w':=by
 obtain⟨Z,hZ⟩:∃ Z,Z=Kq M:=⟨_,rfl⟩
 rw[<- hZ]
 have HZ:Hid (Z=Kq M):=hZ
 clear hZ
 obtain⟨o1,ho1⟩:∃ o:Obj,o=.cells #[.slice aS M.slots.length cS,.slice aH M.heads.length cH,.slice aF M.free.length cF,.slice aL M.locks.length cL,.int .i64 M.now] 25:=⟨_,rfl⟩
 have b0:Below w.heap.size w (w.alloc o1):=A7 w o1
 have HB0:Hid ((w.alloc o1).heap[w.heap.size]?=some o1):=heap_alloc_new _ _
 have HA:Hid (At w aS aH aF aL cS cH cF cL M):=A
 have HA0:Hid _:=A.below b0
 clear A
 go_enter Tryz.func76,Tryz.ntmps76
 go_wp2_with fail
 rw[<- ho1]
 generalize w.alloc o1=W0 at *
 subst ho1
 refine(check_any M aS aH aF aL cS cH cF cL W0 HA0.out).mono ?_
 rintro e w1 ⟨rfl,hb1⟩
 have b1:=b0.trans (hb1.mono b0.size)
 have HB1:Hid _:=(hb1.block w.heap.size (lt_of_block HB0.out)).trans HB0.out
 clear hb1 b0 HB0 HA0
 by_cases hE:chk M=0
 rotate_left
 ·have h':(chk M != 0)=true:=by simpa using hE
  have HV:Hid (Z=chk M):=HZ.out.trans (by unfold Kq;rw[if_pos hE])
  have HN:Hid (chk M≠0):=hE
  clear HB1
  generalize chk M=E at *
  go_wp2
  go_ret2
  exact⟨_,by rw[HV.out];rfl,⟨fun _=>rfl,fun h=>absurd (HV.out ▸ h) HN.out⟩,b1⟩
 have hok:=(Ku M).1 hE
 have n0:=hok.ns
 have n1:=hok.nh
 have HC:Hid (Z=U8 M M.heads.length 0 []):=HZ.out.trans (by unfold Kq;rw[if_neg (by simpa using hE)])
 rw[hE]
 clear hE HZ
 obtain⟨q0,q1,q2,q3,q4,f0,f1,f2,f3,f4,qs⟩:=Af HB1.out
 clear f0 f1 f2 f3 f4
 have HM1:Hid (MapAt M (w1.alloc (.map #[] 0)) w1.heap.size []):=MapAt.made M w1
 have b2:=b1.alloc b1.size (.map #[] 0)
 have HB2:Hid ((w1.alloc (.map #[] 0)).heap[w.heap.size]?=_):=(Below.heap_alloc _ _ _ qs).trans HB1.out
 have hmm:=@run_makeMap Pg
 go_wp2
 clear q0 q1 q2 q3 q4 hmm
 go_loopw [21] (fun i wr=>∃ b:Nat,b<=M.heads.length/\i=.int .i64 b/\Hid (MapAt M wr w1.heap.size (C9 M b))/\Below w.heap.size w wr/\Hid (wr.heap[w.heap.size]?=some (.cells #[.slice aS M.slots.length cS,.slice aH M.heads.length cH,.slice aF M.free.length cF,.slice aL M.locks.length cL,.int .i64 M.now] 25 (0,0)))/\Hid (Z=U8 M (M.heads.length - b) b (C9 M b)))
  (fun i _=>M.heads.length - (intOf i).toNat)
 case atStart=>exact⟨0,Nat.zero_le _,rfl,HM1,b2,HB2,HC⟩
 case round =>
  obtain⟨b,hb,rfl,HM,hbw,HB,HE⟩:=hrel
  clear HM1 HB2 b2 HC HB1 b1
  obtain⟨q0,q1,q2,q3,q4,f0,f1,f2,f3,f4,qs'⟩:=Af HB.out
  clear f0 f1 f2 f3 f4
  have gl:=MapAt.lt HM.out
  by_cases hlt:b<M.heads.length
  ·have HAr:Hid _:=HA.out.below hbw
   go_wp2_with fail
   refine(Zv M aS aH aF aL cS cH cF cL b wr HAr.out hok hlt).mono ?_
   rintro e w2 ⟨ao,cap,rfl,hrow,hb2⟩
   have hbx:=hbw.trans (hb2.mono hbw.size)
   have HM2:Hid (MapAt M w2 w1.heap.size (C9 M b)):=MapAt.kept HM.out (hb2.block _ gl)
   have HB2:Hid (w2.heap[w.heap.size]?=_):=(hb2.block w.heap.size qs').trans HB.out
   have HS:Hid _:=a4b M b hlt
   clear HM HB HAr hbw hb2 q0 q1 q2 q3 q4
   cases hc:Rq M b
   ·have HV:Hid (Z=4):=HE.out.trans (HS.out.trans (by rw[hc];rfl))
    have es:Me M b=4:=by unfold Me;rw[hc];rfl
    have el:Kt M b=[]:=by unfold Kt;rw[hc];rfl
    rw[es,el]
    clear hrow HS HE
    go_wp2
    go_ret2
    exact⟨_,by rw[HV.out];rfl,⟨fun _=>rfl,fun h=>by rw[HV.out] at h;cases h⟩,hbx⟩
   ·have es:Me M b=0:=by unfold Me;rw[hc];rfl
    have el:Kt M b=chL M b:=by unfold Kt;rw[hc];rfl
    rw[es,el]
    rw[el] at hrow
    have HIn:Hid _:=hok.chIn hlt
    have HRow:Hid (Cj w2 ao cap (chL M b)):=hrow
    have hlen:(chL M b).length<=12:=Nat.le_trans (Ox _ _ _) n0
    have HD:Hid (Z=if I8 M b (C9 M b) (chL M b)≠0 then I8 M b (C9 M b) (chL M b) else U8 M (M.heads.length - (b+1)) (b+1) (C9 M (b+1))):=HE.out.trans (HS.out.trans (by rw[hc];rfl))
    have HSu:Hid (C9 M (b+1)=C9 M b++chL M b):=Ie M b
    clear hrow HS HE es el hc
    generalize chL M b=l at *
    go_wp2
    go_loopw [35] (fun i wr=>∃ k:Nat,k<=l.length/\i=.int .i64 k/\Hid (MapAt M wr w1.heap.size (C9 M b++l.take k))/\Hid (Cj wr ao cap l)/\Below w.heap.size w wr/\Hid (wr.heap[w.heap.size]?=some (.cells #[.slice aS M.slots.length cS,.slice aH M.heads.length cH,.slice aF M.free.length cF,.slice aL M.locks.length cL,.int .i64 M.now] 25 (0,0)))/\Hid (I8 M b (C9 M b) l=I8 M b (C9 M b++l.take k) (l.drop k)))
     (fun i _=>l.length - (intOf i).toNat)
    case atStart=>exact⟨0,Nat.zero_le _,rfl,by rw[List.take_zero,List.append_nil];exact HM2,HRow,hbx,HB2,by rw[List.take_zero,List.append_nil,List.drop_zero];exact rfl⟩
    case round =>
     obtain⟨k,hk,rfl,HM3,HR3,hb3,HB3,HE3⟩:=hrel
     clear HM2 HRow hbx HB2
     obtain⟨q0,q1,q2,q3,q4,f0,f1,f2,f3,f4,qs3⟩:=Af HB3.out
     clear f0 f1 f2 f3 f4
     by_cases hlt3:k<l.length
     ·rcases HR3.out.at_ with h0|⟨bl,ol,rfl,hcl⟩
      ·omega
      have d0:=hcl k hlt3
      clear hcl
      have hin:=HIn.out l[k] (List.getElem_mem hlt3)
      obtain⟨j,hj⟩:∃ j:Nat,l[k]=j:=⟨(l[k]).toNat,by omega⟩
      have HX:Hid (l[k]=j):=hj
      rw[hj] at d0 hin
      clear hj
      have hjs:j<M.slots.length:=by omega
      have HA3:Hid _:=HA.out.below hb3
      have HSt:Hid _:=a1z M b (C9 M b) l k hlt3
      go_wp2_with fail
      refine(Wu M aS aH aF aL cS cH cF cL b j w1.heap.size (C9 M b++l.take k) wr HA3.out hok hlt hjs HM3.out).mono ?_
      rintro e w4 ⟨rfl,hb4⟩
      have hbx4:=hb3.trans (hb4.mono hb3.size)
      have HM4:Hid (MapAt M w4 w1.heap.size (C9 M b++l.take k)):=MapAt.kept HM3.out (hb4.block _ (MapAt.lt HM3.out))
      have HB4:Hid (w4.heap[w.heap.size]?=_):=(hb4.block w.heap.size qs3).trans HB3.out
      have HR4:Hid _:=HR3.out.below hb4
      have HA4:Hid _:=HA.out.below hbx4
      clear HM3 HB3 HR3 HA3 hb4 hb3 q0 q1 q2 q3 q4 d0
      by_cases hsc:I9 M b (C9 M b++l.take k) j=0
      ·rw[hsc]
       have HV:Hid (I8 M b (C9 M b) l=I8 M b (C9 M b++l.take (k+1)) (l.drop (k+1))):=HE3.out.trans (HSt.out.trans (by rw[HX.out,if_neg (by simpa using hsc)]))
       have hz:=(Qb M b _ _).1 hsc
       have hnk:hasK M (C9 M b++l.take k) (keyAt M j)=false:=by
        cases hh:hasK M (C9 M b++l.take k) (keyAt M j)
        ·rfl
        ·exact absurd ((Nz _ _ _).1 hh) hz.2
       have HNK:Hid _:=hnk
       clear hz hnk hsc HSt HE3
       obtain⟨r0,r1,r2,r3,r4,g0,g1,g2,g3,g4,rs⟩:=Af HB4.out
       clear g0 g1 g2 g3 g4
       have hgood:=(Ii (hok.slot _ (List.getElem_mem hjs))).2.2.1
       rcases HA4.out.s.at_ with h0|⟨bs,os,rfl,hcs⟩
       ·omega
       obtain⟨c0,c1,c2,c3,c4,c5⟩:=hcs j hjs
       clear hcs c0 c3 c4 c5
       have hsl:Aa M j=M.slots[j]:=Gj hjs
       have hkk:keyAt M j=(M.slots[j].a,M.slots[j].b):=by unfold keyAt;rw[hsl]
       have HKK:Hid (keyAt M j=(M.slots[j].a,M.slots[j].b)):=hkk
       have HSL:Hid (Aa M j=M.slots[j]):=hsl
       clear hkk hsl
       obtain⟨nn,hnn,D,ho,hat⟩:=HM4.out
       have HO:Hid (w4.ownsMap Pg 30 (plainElem Pg 3) w1.heap.size nn D):=ho
       have HAT:Hid _:=hat
       obtain⟨es,clock,hgb⟩:=MapAt.blk HM4.out
       have HGB:Hid _:=hgb
       have hnn2:nn<140737488355328:=by
        have h1:=Oh M b
        have h2:b*M.slots.length<=4*12:=Nat.mul_le_mul (by omega) n0
        have h3:=hnn
        simp only[List.length_append,List.length_take] at h3
        omega
       clear ho hat hgb
       go_wp2_with (at_mapUpdate;(refine wpList_mapUpdate_own (H:=Unit) _ rfl _ _ _ 121 rfl 30 3 a7z a0f (plainElem Pg 3) w1.heap.size nn D rfl HO.out (by unfold maxLen;omega) _ _ (kl (M.slots[j].a,M.slots[j].b)) rfl rfl (Qw (Ju hgood).1 (Ju hgood).2) (.lit (.int .i64 (j:Int))) [] (plainElem_int Tryz.underlying3 (wf64 (by omega) (by omega))) ?_;intro w5 ho5 hg5))
       have HM5:Hid (MapAt M w5 w1.heap.size (C9 M b++l.take (k+1))):=by
        have:=MapAt.put (a:=(j:Int)) hnn HO.out.isMap HAT.out (by rw[HSL.out];exact hgood) HNK.out (by rw[HKK.out];exact ho5)
        rw[List.take_succ_eq_append_getElem hlt3,<- List.append_assoc,HX.out]
        exact this
       have HB5:Hid (w5.heap[w.heap.size]?=some (.cells #[.slice (some ⟨bs,os,none⟩) M.slots.length cS,.slice aH M.heads.length cH,.slice aF M.free.length cF,.slice aL M.locks.length cL,.int .i64 M.now] 25 (0,0))):=(hg5.block w.heap.size rs (by simp;omega)).trans HB4.out
       have HR5:Hid (Cj w5 (some ⟨bl,ol,none⟩) cap l):=HR4.out.turn HGB.out (fun k h1 h2=>hg5.block k h1 (by simpa using h2))
       have hb5:Below w.heap.size w w5:=hbx4.grown hg5 hbx4.size (fun k h=>by cases h;omega)
       go_roundw
       case rel=>exact⟨k+1,by omega,by go_num,HM5,HR5,hb5,HB5,HV⟩
       case measure=>simp[intOf];omega
      ·have h':(I9 M b (C9 M b++l.take k) j != 0)=true:=by simpa using hsc
       have HV:Hid (Z=I9 M b (C9 M b++l.take k) j):=by
        have h1:=HE3.out.trans (HSt.out.trans (by rw[HX.out,if_pos hsc]))
        have:=HD.out
        rw[h1,if_pos hsc] at this
        exact this
       have HN:Hid (I9 M b (C9 M b++l.take k) j≠0):=hsc
       clear HSt HE3 HD hsc HB4 HR4 HA4 HM4
       generalize I9 M b (C9 M b++l.take k) j=E at *
       go_wp2
       go_ret2
       exact⟨_,by rw[HV.out];rfl,⟨fun _=>rfl,fun h=>absurd (HV.out ▸ h) HN.out⟩,hbx4⟩
     ·have hk':k=l.length:=by omega
      have HV:Hid (Z=U8 M (M.heads.length - (b+1)) (b+1) (C9 M (b+1))):=by
       have h1:=HE3.out.trans (a5z M b (C9 M b) l k (by omega))
       have:=HD.out
       rw[h1,if_neg (by simp)] at this
       exact this
      have HM6:Hid (MapAt M wr w1.heap.size (C9 M (b+1))):=by
       have:=HM3.out
       rw[hk',List.take_length,<- HSu.out] at this
       exact this
      go_wp2
      go_roundw
      case rel=>exact⟨b+1,by omega,by go_num,HM6,hb3,HB3,HV⟩
      case measure=>simp[intOf];omega
  ·have hbe:b=M.heads.length:=by omega
   have HV:Hid (Z=0):=HE.out.trans (a7a M b (by omega) _)
   have HMf:Hid (MapAt M wr w1.heap.size (Qg M)):=by
    have:=HM.out
    rw[hbe] at this
    exact this
   go_wp2
   go_ret2
   exact⟨_,by rw[HV.out];rfl,⟨fun h=>absurd HV.out h,fun _=>⟨w1.heap.size,rfl,by omega,HMf.out⟩⟩,hbw⟩
end
section
open Go.ChangeShapes Go.WideShapes Go.ChangeAt Go.RowKit Go.Joins Go.Maps
theorem Ur(M:Mm)(aS aH aF aL:Option Addr)(cS cH cF cL:Nat)(w:Wq)(A:At w aS aH aF aL cS cH cF cL M) :
  Calls Pg 29 #[.agg #[Y aS M.slots.length cS,Y aH M.heads.length cH,Y aF M.free.length cF,Y aL M.locks.length cL,O J M.now]] w fun e w'=>e=.returned (O J (Kq M))/\Below w.heap.size w w':=by
 have b0:Below w.heap.size w (w.alloc (.cells #[Y aS M.slots.length cS,Y aH M.heads.length cH,Y aF M.free.length cF,Y aL M.locks.length cL,O J M.now] 25)):=A7 w _
 have HA0:Hid _:=A.below b0
 clear A
 go_enter Tryz.func29,Tryz.ntmps29
 go_wp2_with fail
 refine(a1g M aS aH aF aL cS cH cF cL _ HA0.out).mono ?_
 rintro e w1 ⟨v,rfl,-,hb1⟩
 have b1:=b0.trans (hb1.mono b0.size)
 clear hb1 b0 HA0
 go_wp2
 go_ret
 exact⟨rfl,b1⟩
end
section
open Go.ChangeShapes Go.WideShapes Go.ChangeAt Go.RowKit Go.Joins Go.Maps
structure Fl where
 a:Int
 b:Int
 slot:Int
 unt:Int
def Fl.enc(f:Fl):List Value:=[O J f.a,O J f.b,O J f.slot,O J f.unt]
def Kv(l:List Fl):List Value:=l.flatMap Fl.enc
theorem Xf(s:Fl)(l:List Fl):Kv (s :: l)=s.enc++Kv l:=by simp[Kv]
theorem a7i(l:List Fl):(Kv l).length=l.length*4:=by
 induction l with
 | nil=>rfl
 | cons s l ih=>rw[Xf,List.length_append,ih];simp[Fl.enc];omega
theorem a7h(l:List Fl)(i q:Nat)(h:i<l.length)(hq:q<4):(Kv l)[i*4+q]?=(l[i].enc)[q]?:=by
 induction l generalizing i with
 | nil=>simp at h
 | cons s l ih =>
  rw[Xf]
  match i with
  | 0 =>
   rw[List.getElem?_append_left (by simp[Fl.enc];omega)]
   simp
  | i+1 =>
   rw[List.getElem?_append_right (by simp[Fl.enc];omega)]
   have hl:s.enc.length=4:=rfl
   rw[hl,show (i+1)*4+q - 4=i*4+q by omega,ih i (by simpa using h)]
   simp
structure Yk(w:Wq)(ao:Option Addr)(cap:Nat)(l:List Fl):Prop where
 le:l.length<=cap
 max:l.length*32<=140737488351232
 nil:ao=none->cap=0
 at_:l.length=0\/∃ b o,ao=some ⟨b,o,none⟩/\∀ i (h:i<l.length),
  w.cell? ⟨b,o+i*4,none⟩=some (O J l[i].a)/\w.cell? ⟨b,o+i*4+1,none⟩=some (O J l[i].b)/\w.cell? ⟨b,o+i*4+2,none⟩=some (O J l[i].slot)/\w.cell? ⟨b,o+i*4+3,none⟩=some (O J l[i].unt)
theorem Yk.below{w w':Wq}{ao:Option Addr}{cap:Nat}{l:List Fl}(r:Yk w ao cap l)(hb:Below w.heap.size w w'):Yk w' ao cap l:=by
 refine⟨r.le,r.max,r.nil,?_⟩
 rcases r.at_ with h|⟨b,o,h,hc⟩
 ·exact .inl h
 ·refine .inr ⟨b,o,h,fun i hi=>?_⟩
  obtain⟨c0,c1,c2,c3⟩:=hc i hi
  have lt:=cell_lt c0
  obtain⟨q,_⟩:=Bv hb
  exact⟨(q _ _ lt).trans c0,(q _ _ lt).trans c1,(q _ _ lt).trans c2,(q _ _ lt).trans c3⟩
theorem Yk.O7{w:Wq}{b cap:Nat}{S:List Fl}(hl:S.length<=cap)(hm:S.length*32<=140737488351232)(hc:∀ j,j<S.length*4->w.cell? ⟨b,j,none⟩=(Kv S)[j]?):Yk w (some ⟨b,0,none⟩) cap S:=by
 refine⟨hl,hm,(fun h=>by cases h),.inr ⟨b,0,rfl,fun i hi=>?_⟩⟩
 have e:∀ q,q<4->w.cell? ⟨b,0+i*4+q,none⟩=(S[i].enc)[q]?:=fun q hq=>by
  rw[Nat.zero_add,hc _ (by omega),a7h S i q hi hq]
 exact⟨e 0 (by omega),e 1 (by omega),e 2 (by omega),e 3 (by omega)⟩
theorem Yk.Kr{w:Wq}{base n:Nat}{v:Value}{S:List Fl}(h:w.ownsRow base 61 4 v n (Kv S))(hm:S.length*32<=140737488351232):∃ ao cap,v=Y ao S.length cap/\Yk w ao cap S:=by
 have hl:=h.1
 rw[a7i] at hl
 have hn:S.length=n:=by omega
 subst hn
 rcases h.2 with ⟨rfl,h0⟩|⟨g,cap,cur,rfl,hg,hb,hc,-,hs,ht⟩
 ·exact⟨none,0,by rw[h0],by omega,hm,fun _=>rfl,.inl h0⟩
 ·exact⟨_,_,rfl,.O7 hc hm fun j hj=>h.cellAt j hj⟩
theorem iF:(Pg.info? 61).map (fun i=>(i.zero,i.size,i.bytes))=some (some (.agg #[O J 0,O J 0,O J 0,O J 0]),4,32):=by kernel_rfl
def Dz(M:Mm)(x:Int):Fl:=⟨(Aa M x).a,(Aa M x).b,x,(Aa M x).unt⟩
def Gm(M:Mm):List Fl:=if Kq M=0 then (Qg M).map (Dz M) else []
theorem a7n(w:Wq)(f:Fl):∀ (j:Nat) (u:Value),(f.enc)[j]?=some u->(w.alloc (.cells #[O J f.a,O J f.b,O J f.slot,O J f.unt] 61)).cell? ((⟨w.heap.size,0,none⟩:Addr).add j)=some u:=by
 intro j u hu
 rw[Addr.add_lit]
 match j,hu with
 | 0,hu=>simp[Fl.enc] at hu;subst hu;simp
 | 1,hu=>simp[Fl.enc] at hu;subst hu;simp
 | 2,hu=>simp[Fl.enc] at hu;subst hu;simp
 | 3,hu=>simp[Fl.enc] at hu;subst hu;simp
 | j+4,hu=>simp[Fl.enc] at hu
theorem app72(M:Mm)(aS aH aF aL:Option Addr)(cS cH cF cL:Nat)(w0 W:Wq)(X B Yq:Nat)(ob:Array Value)(l:List Int)(j:Nat)(L:Lst w0 B Yq 56 61 4 ob W (l.map (Dz M)).length (Kv (l.map (Dz M))))(hl:l.length<=100)
  (hX:W.heap[X]?=some (.cells #[Y aS M.slots.length cS,Y aH M.heads.length cH,Y aF M.free.length cF,Y aL M.locks.length cL,O J M.now] 25 (0,0))) (A:At W aS aH aF aL cS cH cF cL M) (hj:j<M.slots.length) (hns:M.slots.length<=12) :
  Calls Pg 100 #[O J j,.pointer (some ⟨X,0,none⟩),.pointer (some ⟨B,0,none⟩)] W fun e W'=>e=.returned (.tuple #[])/\Lst w0 B Yq 56 61 4 ob W' ((l ++ [(j:Int)]).map (Dz M)).length (Kv ((l ++ [(j:Int)]).map (Dz M))):=by
 obtain⟨i0,hi,hz0,hz1,hz2⟩:=info_parts iF
 obtain⟨⟨v,hB,ho⟩,hY,hb,hne⟩:=L
 have hll:(l.map (Dz M)).length=l.length:=by simp
 rw[hll] at ho
 obtain⟨ao,cap,rfl⟩:=Aq ho
 obtain⟨c0,f0,lB⟩:=Ar hB
 obtain⟨q0,q1,q2,q3,q4,-,-,-,-,-,qs⟩:=Af hX
 rcases A.s.at_ with h0|⟨bs,os,rfl,hcs⟩
 ·omega
 obtain⟨s0,s1,s2,s3,s4,s5⟩:=hcs j hj
 have ls:=cell_lt s0
 have hsl:Aa M j=M.slots[j]:=Gj hj
 generalize hM:M.slots[j]=s at s0 s1 s2 s3 s4 s5 hsl
 obtain⟨r,ka,kb,u,i,nx⟩:=s
 dsimp only at s0 s1 s2 s3 s4 s5
 have HFl:Hid (Dz M j=⟨ka,kb,j,u⟩):=by unfold Dz;rw[hsl];rfl
 clear hM hsl hcs A hX
 have HB:Hid _:=hB
 have HY:Hid _:=hY
 have lY:=lt_of_block hY
 clear hB hY
 have kB:(W.alloc (.cells #[O J r,O J ka,O J kb,O J u,.bool i,O J nx] 64)).heap[B]?=_:=(Below.heap_alloc W (.cells #[O J r,O J ka,O J kb,O J u,.bool i,O J nx] 64) B lB).trans HB.out
 have kY:(W.alloc (.cells #[O J r,O J ka,O J kb,O J u,.bool i,O J nx] 64)).heap[Yq]?=_:=(Below.heap_alloc W (.cells #[O J r,O J ka,O J kb,O J u,.bool i,O J nx] 64) Yq lY).trans HY.out
 have KB:Hid _:=kB
 have KY:Hid _:=kY
 clear kB kY
 have hb':=hb.alloc (Nat.le_of_lt lB) (.cells #[O J r,O J ka,O J kb,O J u,.bool i,O J nx] 64)
 have HN:Hid _:=a7n (W.alloc (.cells #[O J r,O J ka,O J kb,O J u,.bool i,O J nx] 64)) ⟨ka,kb,j,u⟩
 rw[show (W.alloc (.cells #[O J r,O J ka,O J kb,O J u,.bool i,O J nx] 64)).heap.size=W.heap.size+1 by simp] at HN
 go_enter Tryz.func100,Tryz.ntmps100
 go_wp2_with (at_builtin;refine wpList_append_own_at _ rfl (.tmp 10) (.tmp 17) 56 rfl (B+1) 61 i0 (.agg #[O J 0,O J 0,O J 0,O J 0]) 4 32 Tryz.underlying56 hi hz0 hz1 hz2 rfl (by first|decide|exact Ex.ne _ _ (by decide)) _ _ _ rfl ((ho.alloc _).alloc _) ⟨W.heap.size+1,0,none⟩ 1 1 (Fl.enc ⟨ka,kb,j,u⟩) rfl rfl HN.out (by intro x hx;simp only[Fl.enc,List.mem_cons,List.not_mem_nil,or_false] at hx;rcases hx with rfl|rfl|rfl|rfl <;> rfl) (by unfold maxLen;omega) (by omega) (by simp;omega) ?_;intro v2 w2 ho2 hg2 _ hloc2;obtain⟨g2,cap2,rfl⟩:=ownsRow_form ho2 (by omega);have HL:Hid _:=Lst.step KB.out (ho.alloc _) KY.out hb' hne (by first|decide|exact Ex.ne _ _ (by decide)) (by first|decide|exact Ex.ne _ _ (by decide)) hg2 ho2;obtain⟨d0,e0,lB2⟩:=Ar (D6 KB.out hg2 (own_ne (ho.alloc _) KB.out (by first|decide|exact Ex.ne _ _ (by decide))));clear c0 f0 ho2 hg2 hloc2)
 go_end0
 refine⟨rfl,?_⟩
 have:=HL.out
 rw[show Kv (l.map (Dz M) ++ [Dz M (j:Int)])=Kv (l.map (Dz M))++Fl.enc ⟨ka,kb,j,u⟩ by simp[Kv,HFl.out]]
 exact this
theorem fn72:∀ args W,(callFunc 100 args).run Pg W=.ok (.enter 100 args) W:=fun _ _=>by kernel_rfl
end
section
open Go.ChangeShapes Go.WideShapes Go.ChangeAt Go.RowKit Go.Joins Go.Maps
variable {Xb:Ex}
def a1a(M:Mm)(a:Nat)(b:Nat):Mm:={ M with slots:=M.slots.set a { Aa M a with next:=Bf M b,inn:=true },heads:=M.heads.set b ((a:Int)+1) }
theorem a4i(S:List Sl)(j:Nat)(h:j<S.length)(nx:Int)(i:Bool):((encS S).set (j*6+5) (O J nx)).set (j*6+4) (.bool i)=encS (S.set j { S[j] with next:=nx,inn:=i }):=by
 induction S generalizing j with
 | nil=>simp at h
 | cons x S ih =>
  match j with
  | 0=>simp[Dw,Sl.enc]
  | j+1 =>
   have:=ih j (by simpa using h)
   rw[List.set_cons_succ,Dw,Dw,List.getElem_cons_succ,<- this]
   simp only[Sl.enc,List.cons_append,List.nil_append,show (j+1)*6+5=j*6+5+6 by omega,show (j+1)*6+4=j*6+4+6 by omega,List.set_cons_succ]
theorem Ry(S:List Sl)(j:Nat)(h:j<S.length)(nx:Int):(encS S).set (j*6+5) (O J nx)=encS (S.set j { S[j] with next:=nx }):=by
 induction S generalizing j with
 | nil=>simp at h
 | cons x S ih =>
  match j with
  | 0=>simp[Dw,Sl.enc]
  | j+1 =>
   have:=ih j (by simpa using h)
   rw[List.set_cons_succ,Dw,Dw,List.getElem_cons_succ,<- this]
   simp only[Sl.enc,List.cons_append,List.nil_append,show (j+1)*6+5=j*6+5+6 by omega,List.set_cons_succ]
theorem b1g(w:Wq)(B gS gH nS nH j b cS cH:Nat)(fv lv nv:Value)(x nx:Int)(i:Bool)
  (hB:w.heap[B]?=some (.cells (List.toArray (Y (some ⟨gS,0,none⟩) nS cS :: Y (some ⟨gH,0,none⟩) nH cH :: fv :: lv :: nv :: Xb.rs)) Xb.rt (0,0))) (hj:j<nS) (hb:b<nH) (hn:nS<=12) (hh:nH<=4) (d1:B≠gS) (d2:gS≠gH) (d3:B≠gH) (l1:gS<w.heap.size) (l2:gH<w.heap.size)
  (c4:w.cell? ⟨gS,j*6+4,none⟩=some (.bool i)) (c5:w.cell? ⟨gS,j*6+5,none⟩=some (O J nx)) (fz:∀ q,w.frozen? ⟨gS,q,none⟩=false) (ch:w.cell? ⟨gH,b,none⟩=some (O J x)) (fh:w.frozen? ⟨gH,b,none⟩=false) :
  Calls Pg 206 #[.pointer (some ⟨B,0,none⟩),O J b,O J j] w fun e w'=>e=.returned (.tuple #[]) /\
   w'=(((w.setCell ⟨gS,j*6+5,none⟩ (O J x)).setCell ⟨gS,j*6+4,none⟩ (.bool true)).setCell ⟨gH,b,none⟩ (O J ((j:Int)+1))).drew:=by
 obtain⟨q0,q1,q2,q3,q4,-,-,-,-,-,qs⟩:=Af hB
 clear hB
 go_enter Tryz.func206,Tryz.ntmps206
 go_wp2
 go_region_with (go_at_call 214;refine(a2o _ _ (by omega) (by omega)).mono ?_;rintro e w1 ⟨rfl,rfl⟩)
 all_goals go_wp2
 all_goals go_end0
 all_goals exact⟨rfl,rfl⟩
end
section
open Go.ChangeShapes Go.WideShapes Go.ChangeAt Go.RowKit Go.Joins Go.Deep
variable {Xb:Ex}
theorem a9m(w:Wq)(B:Nat)(sv hv lv nv:Value)(aF:Option Addr)(cF:Nat)(ka kb u:Int)
  (hB:w.heap[B]?=some (.cells (List.toArray (sv :: hv :: Y aF 0 cF :: lv :: nv :: Xb.rs)) Xb.rt (0,0))) :
  Calls Pg 118 #[.pointer (some ⟨B,0,none⟩),.agg #[O J ka,O J kb],O J u] w fun e w'=>e=.returned (.tuple #[O J 0,.bool false])/\Below w.heap.size w w':=by
 obtain⟨q0,q1,q2,q3,q4,f0,f1,f2,f3,f4,qs⟩:=Af hB
 clear hB
 go_enter Tryz.func118,Tryz.ntmps118
 go_wp2
 go_ret2
 exact⟨rfl,A7 _ _⟩
theorem a9l(w:Wq)(B gS gF nS n j cS cF:Nat)(hv lv nv:Value)(ka kb u nx r a b v:Int)(i:Bool)(F:List Int)
  (hB:w.heap[B]?=some (.cells (List.toArray (Y (some ⟨gS,0,none⟩) nS cS :: hv :: Y (some ⟨gF,0,none⟩) (n+1) cF :: lv :: nv :: Xb.rs)) Xb.rt (0,0)))
  (hn:n+1<=cF) (hc:cF<=9223372036854775807) (hS:nS<=9223372036854775807) (hj:j<nS) (hm:n*8<=140737488350000) (d1:B≠gS) (d2:B≠gF) (l1:gS<w.heap.size) (l2:gF<w.heap.size) (hF:F.length=n)
  (cx:w.cell? ⟨gF,n,none⟩=some (O J j)) (hFc:∀ q u,(encI F)[q]?=some u->w.cell? ⟨gF,q,none⟩=some u)
  (c0:w.cell? ⟨gS,j*6,none⟩=some (O J r)) (c1:w.cell? ⟨gS,j*6+1,none⟩=some (O J a)) (c2':w.cell? ⟨gS,j*6+2,none⟩=some (O J b)) (c3:w.cell? ⟨gS,j*6+3,none⟩=some (O J v)) (c4:w.cell? ⟨gS,j*6+4,none⟩=some (.bool i)) (c5:w.cell? ⟨gS,j*6+5,none⟩=some (O J nx))
  (hfz:∀ q,w.frozen? ⟨gS,q,none⟩=false) :
  Calls Pg 118 #[.pointer (some ⟨B,0,none⟩),.agg #[O J ka,O J kb],O J u] w fun e w'=>e=.returned (.tuple #[O J j,.bool true])/\∃ a' c' w1,Below w.heap.size w w1/\w1.ownsRow w.heap.size 3 1 (Y a' n c') n (encI F) /\
   ∃ k,w'=(mm.Ir (w1.setCell ⟨B,2,none⟩ (Y a' n c')) gS (j*6) ⟨1,ka,kb,u,false,nx⟩).drewN k:=by
 have hn':n<=cF:=by omega
 have HB:Hid _:=hB
 obtain⟨q0,q1,q2,q3,q4,f0,f1,f2,f3,f4,qs⟩:=Af hB
 obtain⟨i0,hi,hz0,hz1,hz2⟩:=info_parts iI
 have HFc:Hid _:=hFc
 clear hB hFc
 go_enter Tryz.func118,Tryz.ntmps118
 go_wp2_with fail
 go_quiet (fail)
 go_wp2_with fail
 have hb0:Below w.heap.size w ((w.alloc (.cells #[O J ka,O J kb] 30)).drewN nq):=(A7 w _).trans (below_draws _ _ nq)
 have hk0:((w.alloc (.cells #[O J ka,O J kb] 30)).drewN nq).heap[w.heap.size]?=some (.cells #[O J ka,O J kb] 30 (0,0)):=heap_alloc_new _ _
 have hz0':((w.alloc (.cells #[O J ka,O J kb] 30)).drewN nq).heap.size=w.heap.size+1:=by simp
 clear q0 q1 q2 q3 q4 f0 f1 f2 f3 f4
 generalize (w.alloc (.cells #[O J ka,O J kb] 30)).drewN nq=W1 at *
 have HB1:Hid (W1.heap[B]?=_):=(hb0.block B qs).trans HB.out
 obtain⟨q0,q1,q2,q3,q4,f0,f1,f2,f3,f4,qs1⟩:=Af HB1.out
 have HFc1:Hid (∀ q u,(encI F)[q]?=some u->((W1.alloc (.cells #[] 3)).drew).cell? ((⟨gF,0,none⟩:Addr).add q)=some u):=fun q u h=>by
  rw[Addr.add_lit,Nat.zero_add]
  exact((((hb0.trans ((A7 W1 (.cells #[] 3)).mono (by omega))).drew).cell (p:=⟨gF,q,none⟩) l2)).trans (HFc.out q u h)
 have HLt:Hid (((W1.alloc (.cells #[] 3)).drew).ownsRow w.heap.size 3 1 (Y (some ⟨W1.heap.size,0,none⟩) 0 0) 0 []):=(a3i W1 3 1 w.heap.size _ rfl (by omega):(W1.alloc (.cells #[] 3)).ownsRow w.heap.size 3 1 (Y (some ⟨W1.heap.size,0,none⟩) 0 0) 0 [])
 have hwr:IntKind.i64.wrap (n:Int)=(n:Int):=by rw[IntKind.wrap_i64] <;> omega
 have hn2:(n:Int)<=(cF:Int):=by omega
 have hn3:(0:Int)<=(n:Int):=by omega
 have hE:(encI F).length=n*1:=by rw[Dq,Nat.mul_one,hF]
 have hz1':w.heap.size+1=W1.heap.size:=hz0'.symm
 have HK0:Hid _:=hk0
 have HZ0:Hid _:=hz0'
 have HB0:Hid _:=hb0
 clear hk0 hz0' hb0
 go_region_law (first
  | (refine Dt _ rfl (.tmp 28) (.tmp 39) 23 rfl w.heap.size 3 i0 (O J 0) 1 8 Tryz.underlying23 hi hz0 hz1 hz2 rfl (by first|decide|exact Ex.ne _ _ (by decide)) (Y (some ⟨W1.heap.size,0,none⟩) 0 0) 0 [] rfl HLt.out ⟨gF,0,none⟩ n cF (encI F) rfl hE HFc1.out (Gp F) (by unfold maxLen;omega) (by omega) (by simp;omega) ?_;intro v2 w2 ho2 hg2 _ hloc2;rw[Nat.zero_add,List.nil_append] at ho2;obtain⟨a2,c2,rfl⟩:=Aq ho2;have HO2:Hid (w2.ownsRow w.heap.size 3 1 (Y a2 n c2) n (encI F)):=ho2;have HK2:Hid (Below w.heap.size w w2/\w.heap.size<w2.heap.size/\w2.heap[w.heap.size]?=some (.cells #[O J ka,O J kb] 30 (0,0))):=a9v HB0.out HK0.out HZ0.out hg2;clear ho2 hg2 hloc2 q0 q1 q2 q3 q4 f0 f1 f2 f3 f4 qs1;obtain⟨q0,q1,q2,q3,q4,f0,f1,f2,f3,f4,qs2⟩:=Af ((HK2.out.1.block B qs).trans HB.out);obtain⟨k0,k1⟩:=keyf HK2.out.2.2;obtain⟨e0,e1,e2,e3,e4,e5,ez⟩:=a2l HK2.out.1 l1 c0 c1 c2' c3 c4 c5 hfz;have l3:w.heap.size<w2.heap.size:=HK2.out.2.1;have l4:gS<w2.heap.size:=(by omega)))
 all_goals (clear c0 c1 c2' c3 c4 c5 hfz cx)
 all_goals go_wp2_with fail
 all_goals go_region
 all_goals go_wp2
 all_goals go_ret2
 all_goals exact⟨rfl,a2,c2,w2,HK2.out.1,HO2.out,1,rfl⟩
theorem a9g(w:Wq)(B gS gH nS nH j b cS cH:Nat)(fv lv nv:Value)(r ka kb u nx x:Int)(i:Bool)
  (hB:w.heap[B]?=some (.cells (List.toArray (Y (some ⟨gS,0,none⟩) nS cS :: Y (some ⟨gH,0,none⟩) nH cH :: fv :: lv :: nv :: Xb.rs)) Xb.rt (0,0))) (hj:j<nS) (hb:b<nH) (hn:nS<=12) (hh:nH<=4) (d1:B≠gS) (d2:gS≠gH) (d3:B≠gH) (l1:gS<w.heap.size) (l2:gH<w.heap.size)
  (c0:w.cell? ⟨gS,j*6,none⟩=some (O J r)) (c1:w.cell? ⟨gS,j*6+1,none⟩=some (O J ka)) (c2:w.cell? ⟨gS,j*6+2,none⟩=some (O J kb)) (c3:w.cell? ⟨gS,j*6+3,none⟩=some (O J u)) (c4:w.cell? ⟨gS,j*6+4,none⟩=some (.bool i)) (c5:w.cell? ⟨gS,j*6+5,none⟩=some (O J nx))
  (fz:∀ q,w.frozen? ⟨gS,q,none⟩=false) (ch:w.cell? ⟨gH,b,none⟩=some (O J x)) (fh:w.frozen? ⟨gH,b,none⟩=false) :
  Calls Pg 120 #[.pointer (some ⟨B,0,none⟩),O J j,O J b] w fun e w'=>e=.returned (.tuple #[]) /\
   ∃ ob,w'=(((mm.Ir w gS (j*6) ⟨r,ka,kb,u,true,x⟩).setCell ⟨gH,b,none⟩ (O J ((j:Int)+1))).alloc ob).drew:=by
 obtain⟨q0,q1,q2,q3,q4,-,-,-,-,-,qs⟩:=Af hB
 clear hB
 go_enter Tryz.func120,Tryz.ntmps120
 go_wp2
 go_region
 all_goals go_wp2
 all_goals go_end0
 all_goals exact⟨rfl,_,rfl⟩
end
section
open Go.ChangeShapes Go.WideShapes Go.ChangeAt Go.RowKit Go.Joins
variable {Xb:Ex}
theorem Fine.Ir{w w1:Wq}{Z:Nat->Prop}{g:Nat}(h:Fine w w1 Z)(hk:Z g\/w.heap.size<=g)(o:Nat)(s:Sl):Fine w (mm.Ir w1 g o s) Z:=by
 unfold mm.Ir
 exact(((((h.set hk _ _).set hk _ _).set hk _ _).set hk _ _).set hk _ _).set hk _ _
theorem Xl{M:Mm}(hM:Ok M)(hF:0<M.free.length)(ka kb u:Int):∃ n j:Nat,∃ hn:M.free.length=n+1,∃ hj:j<M.slots.length,M.free[n]'(by omega)=j/\G8 M=j/\Oa M ka kb u = { M with slots:=M.slots.set j ⟨1,ka,kb,u,false,M.slots[j].next⟩,free:=M.free.take n }:=by
 have hl:=b1f hM (by omega)
 obtain⟨n,hn⟩:∃ n,M.free.length=n+1:=⟨M.free.length - 1,by omega⟩
 have hnF:n<M.free.length:=by omega
 have hlast:G8 M=M.free[n]:=by
  show M.free.getD (M.free.length - 1) 0=_
  rw[show M.free.length - 1=n by omega]
  simp[List.getD_eq_getElem?_getD,hnF]
 obtain⟨j,hj⟩:∃ j:Nat,G8 M=j:=⟨(G8 M).toNat,by omega⟩
 have hjS:j<M.slots.length:=by omega
 refine⟨n,j,hn,hjS,hlast.symm.trans hj,hj,?_⟩
 unfold Oa
 rw[hj,show M.free.length - 1=n by omega]
 simp[List.getD_eq_getElem?_getD,hjS]
theorem a6e{M:Mm}{w:Wq}{B lo:Nat}{Z:Nat->Prop}{ka kb u:Int}(H:Has Xb w B lo Z M)(hM:Ok M)(hF:0<M.free.length) :
  Calls Pg 203 #[.pointer (some ⟨B,0,none⟩),.agg #[O J ka,O J kb],O J u] w fun e w'=>e=.returned (.tuple #[O J (G8 M),.bool true])/\Has Xb w' B lo (Up w Z) (Oa M ka kb u)/\Fine w w' Z:=by
 obtain⟨aS,aH,aF,aL,cS,cH,cF,cL,m,hf⟩:=H
 obtain⟨n,j,hn,hjS,hFj,hj,hT⟩:=Xl hM hF ka kb u
 obtain⟨gS,rfl,oS,lS,-,-⟩:=Bh m.c.s (by omega)
 obtain⟨gF,rfl,oF,lF,kF,kF2⟩:=Bh m.c.f hF
 rw[hT,hj]
 refine(b2j w B lo gS gF n j cS cH cF cL aH aL M ka kb u m hn hjS hFj (by omega) kF2).mono ?_
 rintro e w' ⟨rfl,w1,hb1,rfl⟩
 have mp:=((m.below hb1).pop hn).Ir (j:=j) hjS ⟨1,ka,kb,u,false,M.slots[j].next⟩
 have kp:Fine w _ Z:=(((Fine.of_below Z hb1).set (k:=B) (.inl (hf _ (.inl rfl))) 2 (Y (some ⟨gF,0,none⟩) n cF))).Ir (.inl (hf gS (.inr (.inl ⟨_,rfl,rfl⟩)))) (j*6) ⟨1,ka,kb,u,false,M.slots[j].next⟩
 generalize mm.Ir (w1.setCell ⟨B,2,none⟩ (Y (some ⟨gF,0,none⟩) n cF)) gS (j*6) ⟨1,ka,kb,u,false,M.slots[j].next⟩=W at *
 have hb:Below W.heap.size W W.drew:=(Below.refl _ _).drew
 exact⟨rfl,⟨_,_,_,_,_,_,_,_,mp.below hb,fun k hk=>.inl (hf k hk)⟩,kp.below hb⟩
theorem a6f{M:Mm}{w:Wq}{B lo:Nat}{Z:Nat->Prop}{ka kb u:Int}(H:Has Xb w B lo Z M)(hF:M.free.length=0) :
  Calls Pg 203 #[.pointer (some ⟨B,0,none⟩),.agg #[O J ka,O J kb],O J u] w fun e w'=>e=.returned (.tuple #[O J 0,.bool false])/\Below w.heap.size w w':=by
 obtain⟨aS,aH,aF,aL,cS,cH,cF,cL,m,hf⟩:=H
 have hB:=m.box
 rw[hF] at hB
 exact b2k w B _ _ _ _ aF cF ka kb u hB
theorem a1v{M:Mm}{w:Wq}{B lo:Nat}{Z:Nat->Prop}{ka kb u:Int}(H:Has Xb w B lo Z M)(hM:Ok M)(hF:0<M.free.length) :
  Calls Pg 118 #[.pointer (some ⟨B,0,none⟩),.agg #[O J ka,O J kb],O J u] w fun e w'=>e=.returned (.tuple #[O J (G8 M),.bool true])/\Has Xb w' B lo (Up w Z) (Oa M ka kb u)/\Fine w w' Z:=by
 have hfew:=Qu hM
 obtain⟨aS,aH,aF,aL,cS,cH,cF,cL,m,hf⟩:=H
 obtain⟨n,j,hn,hjS,hFj,hj,hT⟩:=Xl hM hF ka kb u
 obtain⟨gS,rfl,oS,lS,-,-⟩:=Bh m.c.s (by omega)
 obtain⟨gF,rfl,oF,lF,kF,kF2⟩:=Bh m.c.f hF
 rw[hT,hj]
 have hnF:n<M.free.length:=by omega
 obtain⟨c0,c1,c2,c3,c4,c5,fz⟩:=Df m.c.s hjS
 have cx:=(Fe m.c.f hnF).1
 rw[hFj] at cx
 have hB:=m.box
 rw[hn] at hB
 have m1:=m.m1
 have hlen:(M.free.take n).length=n:=by rw[List.length_take];omega
 have hFc:∀ q u,(encI (M.free.take n))[q]?=some u->w.cell? ⟨gF,q,none⟩=some u:=fun q u h=>by
  have hq:q<n:=by
   have:=(List.getElem?_eq_some_iff.1 h).1
   rwa [Dq,hlen] at this
  rw[m.c.f.cellAt q (by omega),<- h]
  simp[encI,List.getElem?_take_of_lt hq]
 refine(a9l w B gS gF _ n j cS cF _ _ _ ka kb u _ _ _ _ _ _ (M.free.take n) hB (by omega) kF2 (by omega) hjS (by omega) m.a8g m.ne_f lS lF hlen cx hFc c0 c1 c2 c3 c4 c5 fz).mono ?_
 rintro e w' ⟨rfl,a',c',w1,hb,ho,k,rfl⟩
 have hi':=Py ho
 have mp:=(m.Cm (M.free.take n) (by rw[hlen];omega) hb hlen ho).Ir (j:=j) hjS ⟨1,ka,kb,u,false,M.slots[j].next⟩
 have kp:Fine w _ Z:=(((Fine.of_below Z hb).set (k:=B) (.inl (hf _ (.inl rfl))) 2 (Y a' n c'))).Ir (.inl (hf gS (.inr (.inl ⟨_,rfl,rfl⟩)))) (j*6) ⟨1,ka,kb,u,false,M.slots[j].next⟩
 generalize mm.Ir (w1.setCell ⟨B,2,none⟩ (Y a' n c')) gS (j*6) ⟨1,ka,kb,u,false,M.slots[j].next⟩=W at *
 have hbl:Below W.heap.size W (W.drewN k):=below_draws _ _ k
 exact⟨rfl,⟨_,_,_,_,_,_,_,_,mp.below hbl,Sj hf hi'⟩,kp.below hbl⟩
theorem a1w{M:Mm}{w:Wq}{B lo:Nat}{Z:Nat->Prop}{ka kb u:Int}(H:Has Xb w B lo Z M)(hF:M.free.length=0) :
  Calls Pg 118 #[.pointer (some ⟨B,0,none⟩),.agg #[O J ka,O J kb],O J u] w fun e w'=>e=.returned (.tuple #[O J 0,.bool false])/\Below w.heap.size w w':=by
 obtain⟨aS,aH,aF,aL,cS,cH,cF,cL,m,hf⟩:=H
 have hB:=m.box
 rw[hF] at hB
 exact a9m w B _ _ _ _ aF cF ka kb u hB
theorem Ze(M:Mm)(j b:Nat):Qx M j b=a1a M j b:=rfl
theorem a4v{M:Mm}{w:Wq}{B lo:Nat}{Z:Nat->Prop}{j b:Nat}(H:Has Xb w B lo Z M)(hM:Ok M)(hj:j<M.slots.length)(hb:b<M.heads.length) :
  Calls Pg 206 #[.pointer (some ⟨B,0,none⟩),O J b,O J j] w fun e w'=>e=.returned (.tuple #[])/\Has Xb w' B lo (Up w Z) (Qx M j b)/\Fine w w' Z:=by
 obtain⟨aS,aH,aF,aL,cS,cH,cF,cL,m,hf⟩:=H
 obtain⟨gS,rfl,oS,lS,-,-⟩:=Bh m.c.s (by omega)
 obtain⟨gH,rfl,oH,lH,-,-⟩:=Bh m.c.h (by omega)
 obtain⟨c0,c1,c2,c3,c4,c5,fz⟩:=Df m.c.s hj
 obtain⟨ch,fh⟩:=Fe m.c.h hb
 have dj:gS≠gH:=fun e=>Cf m.c.s m.c.h (by first|decide|exact Ex.ne _ _ (by decide)) gS rfl (by rw[e];rfl)
 refine(b1g w B gS gH _ _ j b cS cH _ _ _ _ _ _ m.box hj hb hM.ns hM.nh.2 m.a8g dj m.ne_h lS lH c4 c5 fz ch fh).mono ?_
 rintro e w' ⟨rfl,rfl⟩
 have hs:Aa M j=M.slots[j]:=Gj hj
 have hhd:Bf M b=M.heads[b]:=by simp[Bf,List.getD_eq_getElem?_getD,hb]
 rw[Ze]
 unfold a1a
 rw[hs,hhd]
 have h5:=Ry M.slots j hj M.heads[b]
 have h2:=a4i M.slots j hj M.heads[b] true
 rw[h5] at h2
 have m2:=((m.Rl (j*6+5) (O J M.heads[b]) _ h5).Rl (j*6+4) (.bool true) _ h2).setH b ((j:Int)+1)
 have zS:Z gS\/w.heap.size<=gS:=.inl (hf gS (.inr (.inl ⟨_,rfl,rfl⟩)))
 have zH:Z gH\/w.heap.size<=gH:=.inl (hf gH (.inr (.inr (.inl ⟨_,rfl,rfl⟩))))
 have k2:Fine w _ Z:=(((Fine.refl w Z).set zS (j*6+5) (O J M.heads[b])).set zS (j*6+4) (.bool true)).set zH b (O J ((j:Int)+1))
 generalize ((w.setCell ⟨gS,j*6+5,none⟩ (O J M.heads[b])).setCell ⟨gS,j*6+4,none⟩ (.bool true)).setCell ⟨gH,b,none⟩ (O J ((j:Int)+1))=W at *
 have hbl:Below W.heap.size W W.drew:=(Below.refl _ _).drew
 exact⟨rfl,⟨_,_,_,_,_,_,_,_,m2.below hbl,fun k hk=>.inl (hf k hk)⟩,k2.below hbl⟩
theorem a1r{M:Mm}{w:Wq}{B lo:Nat}{Z:Nat->Prop}{j b:Nat}(H:Has Xb w B lo Z M)(hM:Ok M)(hj:j<M.slots.length)(hb:b<M.heads.length) :
  Calls Pg 120 #[.pointer (some ⟨B,0,none⟩),O J j,O J b] w fun e w'=>e=.returned (.tuple #[])/\Has Xb w' B lo (Up w Z) (Qx M j b)/\Fine w w' Z:=by
 obtain⟨aS,aH,aF,aL,cS,cH,cF,cL,m,hf⟩:=H
 obtain⟨gS,rfl,oS,lS,-,-⟩:=Bh m.c.s (by omega)
 obtain⟨gH,rfl,oH,lH,-,-⟩:=Bh m.c.h (by omega)
 obtain⟨c0,c1,c2,c3,c4,c5,fz⟩:=Df m.c.s hj
 obtain⟨ch,fh⟩:=Fe m.c.h hb
 have dj:gS≠gH:=fun e=>Cf m.c.s m.c.h (by first|decide|exact Ex.ne _ _ (by decide)) gS rfl (by rw[e];rfl)
 refine(a9g w B gS gH _ _ j b cS cH _ _ _ _ _ _ _ _ _ _ m.box hj hb hM.ns hM.nh.2 m.a8g dj m.ne_h lS lH c0 c1 c2 c3 c4 c5 fz ch fh).mono ?_
 rintro e w' ⟨rfl,ob,rfl⟩
 have hs:Aa M j=M.slots[j]:=Gj hj
 have hhd:Bf M b=M.heads[b]:=by simp[Bf,List.getD_eq_getElem?_getD,hb]
 rw[Ze]
 unfold a1a
 rw[hs,hhd]
 have m2:=(m.Ir (j:=j) hj ⟨M.slots[j].refs,M.slots[j].a,M.slots[j].b,M.slots[j].unt,true,M.heads[b]⟩).setH b ((j:Int)+1)
 have zS:Z gS\/w.heap.size<=gS:=.inl (hf gS (.inr (.inl ⟨_,rfl,rfl⟩)))
 have zH:Z gH\/w.heap.size<=gH:=.inl (hf gH (.inr (.inr (.inl ⟨_,rfl,rfl⟩))))
 have k2:Fine w _ Z:=((Fine.refl w Z).Ir zS (j*6) ⟨M.slots[j].refs,M.slots[j].a,M.slots[j].b,M.slots[j].unt,true,M.heads[b]⟩).set zH b (O J ((j:Int)+1))
 generalize (mm.Ir w gS (j*6) ⟨M.slots[j].refs,M.slots[j].a,M.slots[j].b,M.slots[j].unt,true,M.heads[b]⟩).setCell ⟨gH,b,none⟩ (O J ((j:Int)+1))=W at *
 have hbl:Below W.heap.size W ((W.alloc ob).drew):=(A7 W ob).drew
 exact⟨rfl,⟨_,_,_,_,_,_,_,_,m2.below hbl,fun k hk=>.inl (hf k hk)⟩,k2.below hbl⟩
theorem J3(w:Wq)(B gL nL b cL:Nat)(sv hv fv nv:Value)(x t:Int)
  (hB:w.heap[B]?=some (.cells (List.toArray (sv :: hv :: fv :: Y (some ⟨gL,0,none⟩) nL cL :: nv :: Xb.rs)) Xb.rt (0,0))) (hb:b<nL) (hn:nL<=1000) (c:w.cell? ⟨gL,b,none⟩=some (O J x)) :
  Calls Pg 213 #[.pointer (some ⟨B,0,none⟩),O J b,O J t] w fun e w'=>e=.returned (.bool (x==t))/\w=w':=by
 obtain⟨q0,q1,q2,q3,q4,-,-,-,-,-,qs⟩:=Af hB
 have hw:inB (b:Int) 0 ((nL:Int) - 1)=true:=(Aj _ _ _).2 (by omega)
 have HW:Hid (∀ W:Wq,Calls Pg 85 #[O J (b:Int),O J 0,O J ((nL:Int) - 1)] W fun e w'=>e=.returned (.bool true)/\W=w'):=fun W=>hw ▸ Bq _ _ _ W
 clear hB hw
 go_enter Tryz.func213,Tryz.ntmps213
 go_wp2_with (go_at_call 85;refine(HW.out _).mono ?_;rintro e w1 ⟨rfl,rfl⟩)
 go_ret
 exact⟨rfl,rfl⟩
theorem a8e(w:Wq)(B gL nL b cL:Nat)(sv hv fv nv:Value)(t:Int)
  (hB:w.heap[B]?=some (.cells (List.toArray (sv :: hv :: fv :: Y (some ⟨gL,0,none⟩) nL cL :: nv :: Xb.rs)) Xb.rt (0,0))) (hb:b<nL) (hn:nL<=1000) (c:w.cell? ⟨gL,b,none⟩=some (O J (-1))) (fz:w.frozen? ⟨gL,b,none⟩=false) :
  Calls Pg 205 #[.pointer (some ⟨B,0,none⟩),O J b,O J t] w fun e w'=>e=.returned (.bool true)/\w.setCell ⟨gL,b,none⟩ (O J t)=w':=by
 have HW:Hid (Calls Pg 213 #[.pointer (some ⟨B,0,none⟩),O J b,O J (-1)] w fun e w'=>e=.returned (.bool true)/\w=w'):=J3 w B gL nL b cL sv hv fv nv (-1) (-1) hB hb hn c
 obtain⟨q0,q1,q2,q3,q4,-,-,-,-,-,qs⟩:=Af hB
 clear hB
 go_enter Tryz.func205,Tryz.ntmps205
 go_wp2_with (go_at_call 213;refine HW.out.mono ?_;rintro e w1 ⟨rfl,rfl⟩)
 go_ret
 exact⟨rfl,rfl⟩
theorem b1i(w:Wq)(B gL nL b cL:Nat)(sv hv fv nv:Value)(x t:Int)
  (hB:w.heap[B]?=some (.cells (List.toArray (sv :: hv :: fv :: Y (some ⟨gL,0,none⟩) nL cL :: nv :: Xb.rs)) Xb.rt (0,0))) (hb:b<nL) (hn:nL<=1000) (c:w.cell? ⟨gL,b,none⟩=some (O J x)) (hx:(x == -1)=false) :
  Calls Pg 205 #[.pointer (some ⟨B,0,none⟩),O J b,O J t] w fun e w'=>e=.returned (.bool false)/\w=w':=by
 have HW:Hid (Calls Pg 213 #[.pointer (some ⟨B,0,none⟩),O J b,O J (-1)] w fun e w'=>e=.returned (.bool false)/\w=w'):=hx ▸ J3 w B gL nL b cL sv hv fv nv x (-1) hB hb hn c
 obtain⟨q0,q1,q2,q3,q4,-,-,-,-,-,qs⟩:=Af hB
 clear hB hx
 go_enter Tryz.func205,Tryz.ntmps205
 go_wp2_with (go_at_call 213;refine HW.out.mono ?_;rintro e w1 ⟨rfl,rfl⟩)
 go_ret
 exact⟨rfl,rfl⟩
theorem a2q(w:Wq)(B gL nL b cL:Nat)(sv hv fv nv:Value)(t:Int)
  (hB:w.heap[B]?=some (.cells (List.toArray (sv :: hv :: fv :: Y (some ⟨gL,0,none⟩) nL cL :: nv :: Xb.rs)) Xb.rt (0,0))) (hb:b<nL) (hn:nL<=1000) (c:w.cell? ⟨gL,b,none⟩=some (O J t)) (fz:w.frozen? ⟨gL,b,none⟩=false) :
  Calls Pg 207 #[.pointer (some ⟨B,0,none⟩),O J b,O J t] w fun e w'=>e=.returned (.tuple #[])/\w.setCell ⟨gL,b,none⟩ (O J (-1))=w':=by
 have HW:Hid (Calls Pg 213 #[.pointer (some ⟨B,0,none⟩),O J b,O J t] w fun e w'=>e=.returned (.bool true)/\w=w'):=(show (t==t)=true by simp) ▸ J3 w B gL nL b cL sv hv fv nv t t hB hb hn c
 obtain⟨q0,q1,q2,q3,q4,-,-,-,-,-,qs⟩:=Af hB
 clear hB
 go_enter Tryz.func207,Tryz.ntmps207
 go_wp2_with (go_at_call 213;refine HW.out.mono ?_;rintro e w1 ⟨rfl,rfl⟩)
 go_end0
 exact⟨rfl,rfl⟩
theorem a6i(w:Wq)(B gL nL b cL:Nat)(sv hv fv nv:Value)(x t:Int)
  (hB:w.heap[B]?=some (.cells (List.toArray (sv :: hv :: fv :: Y (some ⟨gL,0,none⟩) nL cL :: nv :: Xb.rs)) Xb.rt (0,0))) (hb:b<nL) (hn:nL<=1000) (c:w.cell? ⟨gL,b,none⟩=some (O J x)) (hx:(x==t)=false) :
  Calls Pg 207 #[.pointer (some ⟨B,0,none⟩),O J b,O J t] w fun e w'=>e=.returned (.tuple #[])/\w=w':=by
 have HW:Hid (Calls Pg 213 #[.pointer (some ⟨B,0,none⟩),O J b,O J t] w fun e w'=>e=.returned (.bool false)/\w=w'):=hx ▸ J3 w B gL nL b cL sv hv fv nv x t hB hb hn c
 obtain⟨q0,q1,q2,q3,q4,-,-,-,-,-,qs⟩:=Af hB
 clear hB hx
 go_enter Tryz.func207,Tryz.ntmps207
 go_wp2_with (go_at_call 213;refine HW.out.mono ?_;rintro e w1 ⟨rfl,rfl⟩)
 go_end0
 exact⟨rfl,rfl⟩
theorem a1s(w:Wq)(B gL nL b cL:Nat)(sv hv fv nv:Value)(t:Int)
  (hB:w.heap[B]?=some (.cells (List.toArray (sv :: hv :: fv :: Y (some ⟨gL,0,none⟩) nL cL :: nv :: Xb.rs)) Xb.rt (0,0))) (hb:b<nL) (hn:nL<=1000) (c:w.cell? ⟨gL,b,none⟩=some (O J (-1))) (fz:w.frozen? ⟨gL,b,none⟩=false) :
  Calls Pg 119 #[.pointer (some ⟨B,0,none⟩),O J b,O J t] w fun e w'=>e=.returned (.bool true)/\w.setCell ⟨gL,b,none⟩ (O J t)=w':=by
 obtain⟨q0,q1,q2,q3,q4,-,-,-,-,-,qs⟩:=Af hB
 clear hB
 go_enter Tryz.func119,Tryz.ntmps119
 go_wp2
 go_ret
 exact⟨rfl,rfl⟩
theorem a5u(w:Wq)(B gL nL b cL:Nat)(sv hv fv nv:Value)(x t:Int)
  (hB:w.heap[B]?=some (.cells (List.toArray (sv :: hv :: fv :: Y (some ⟨gL,0,none⟩) nL cL :: nv :: Xb.rs)) Xb.rt (0,0))) (hb:b<nL) (hn:nL<=1000) (c:w.cell? ⟨gL,b,none⟩=some (O J x)) (hx:(x == -1)=false) :
  Calls Pg 119 #[.pointer (some ⟨B,0,none⟩),O J b,O J t] w fun e w'=>e=.returned (.bool false)/\w=w':=by
 obtain⟨q0,q1,q2,q3,q4,-,-,-,-,-,qs⟩:=Af hB
 clear hB
 go_enter Tryz.func119,Tryz.ntmps119
 go_wp2
 go_ret
 exact⟨rfl,rfl⟩
theorem Yc(w:Wq)(B gL nL b cL:Nat)(sv hv fv nv:Value)(t:Int)
  (hB:w.heap[B]?=some (.cells (List.toArray (sv :: hv :: fv :: Y (some ⟨gL,0,none⟩) nL cL :: nv :: Xb.rs)) Xb.rt (0,0))) (hb:b<nL) (hn:nL<=1000) (c:w.cell? ⟨gL,b,none⟩=some (O J t)) (fz:w.frozen? ⟨gL,b,none⟩=false) :
  Calls Pg 121 #[.pointer (some ⟨B,0,none⟩),O J b,O J t] w fun e w'=>e=.returned (.tuple #[])/\w.setCell ⟨gL,b,none⟩ (O J (-1))=w':=by
 obtain⟨q0,q1,q2,q3,q4,-,-,-,-,-,qs⟩:=Af hB
 clear hB
 have ht:(t==t)=true:=by simp
 go_enter Tryz.func121,Tryz.ntmps121
 go_wp2
 go_end0
 exact⟨rfl,rfl⟩
theorem Zq(w:Wq)(B gL nL b cL:Nat)(sv hv fv nv:Value)(x t:Int)
  (hB:w.heap[B]?=some (.cells (List.toArray (sv :: hv :: fv :: Y (some ⟨gL,0,none⟩) nL cL :: nv :: Xb.rs)) Xb.rt (0,0))) (hb:b<nL) (hn:nL<=1000) (c:w.cell? ⟨gL,b,none⟩=some (O J x)) (hx:(x==t)=false) :
  Calls Pg 121 #[.pointer (some ⟨B,0,none⟩),O J b,O J t] w fun e w'=>e=.returned (.tuple #[])/\w=w':=by
 obtain⟨q0,q1,q2,q3,q4,-,-,-,-,-,qs⟩:=Af hB
 clear hB
 go_enter Tryz.func121,Tryz.ntmps121
 go_wp2
 go_end0
 exact⟨rfl,rfl⟩
def Kz(M:Mm)(b:Nat)(t:Int):Mm:=if Ce M b=-1 then Zh M b t else M
def L8(M:Mm)(b:Nat)(t:Int):Mm:=if Ce M b=t then Zh M b (-1) else M
theorem Ls{M:Mm}{b:Nat}(hb:b<M.locks.length):Ce M b=M.locks[b]:=by simp[Ce,List.getD_eq_getElem?_getD,hb]
theorem Oj{M:Mm}{w:Wq}{B lo b:Nat}{Z:Nat->Prop}{aS aH aF:Option Addr}{gL cS cH cF cL:Nat}{t:Int}(m:Mine Xb w B lo aS aH aF (some ⟨gL,0,none⟩) cS cH cF cL M)(hf:∀ k,Ac B aS aH aF (some ⟨gL,0,none⟩) k->Z k) :
  Has Xb (w.setCell ⟨gL,b,none⟩ (O J t)) B lo (Up w Z) (Zh M b t)/\Fine w (w.setCell ⟨gL,b,none⟩ (O J t)) Z :=
 ⟨⟨_,_,_,_,_,_,_,_,m.La b t,fun k hk=>.inl (hf k hk)⟩,(Fine.refl w Z).set (.inl (hf gL (.inr (.inr (.inr (.inr ⟨_,rfl,rfl⟩)))))) _ _⟩
theorem Sz{M:Mm}{w:Wq}{B lo b:Nat}{Z:Nat->Prop}(t:Int)(H:Has Xb w B lo Z M)(hM:Ok M)(hb:b<M.heads.length) :
  Calls Pg 205 #[.pointer (some ⟨B,0,none⟩),O J b,O J t] w fun e w'=>e=.returned (.bool (Ce M b == -1))/\Has Xb w' B lo (Up w Z) (Kz M b t)/\Fine w w' Z:=by
 have hl:=hM.nl
 have hh:=hM.nh.2
 have H':=H
 obtain⟨aS,aH,aF,aL,cS,cH,cF,cL,m,hf⟩:=H
 obtain⟨gL,rfl,oL,lL,-,-⟩:=Bh m.c.l (by omega)
 obtain⟨c,fz⟩:=Fe m.c.l (j:=b) (by omega)
 rw[<- Ls (by omega)] at c
 unfold Kz
 by_cases h:Ce M b=-1
 ·rw[h] at c ⊢
  refine(a8e w B gL _ b cL _ _ _ _ t m.box (by omega) (by omega) c fz).mono ?_
  rintro e w' ⟨rfl,rfl⟩
  rw[if_pos rfl]
  exact⟨rfl,Oj m hf⟩
 ·have hx:(Ce M b == -1)=false:=by simpa using h
  rw[hx,if_neg h]
  refine(b1i w B gL _ b cL _ _ _ _ _ t m.box (by omega) (by omega) c hx).mono ?_
  rintro e w' ⟨rfl,rfl⟩
  exact⟨rfl,H'.up,.refl _ _⟩
theorem Q9{M:Mm}{w:Wq}{B lo b:Nat}{Z:Nat->Prop}(t:Int)(H:Has Xb w B lo Z M)(hM:Ok M)(hb:b<M.heads.length) :
  Calls Pg 119 #[.pointer (some ⟨B,0,none⟩),O J b,O J t] w fun e w'=>e=.returned (.bool (Ce M b == -1))/\Has Xb w' B lo (Up w Z) (Kz M b t)/\Fine w w' Z:=by
 have hl:=hM.nl
 have hh:=hM.nh.2
 have H':=H
 obtain⟨aS,aH,aF,aL,cS,cH,cF,cL,m,hf⟩:=H
 obtain⟨gL,rfl,oL,lL,-,-⟩:=Bh m.c.l (by omega)
 obtain⟨c,fz⟩:=Fe m.c.l (j:=b) (by omega)
 rw[<- Ls (by omega)] at c
 unfold Kz
 by_cases h:Ce M b=-1
 ·rw[h] at c ⊢
  refine(a1s w B gL _ b cL _ _ _ _ t m.box (by omega) (by omega) c fz).mono ?_
  rintro e w' ⟨rfl,rfl⟩
  rw[if_pos rfl]
  exact⟨rfl,Oj m hf⟩
 ·have hx:(Ce M b == -1)=false:=by simpa using h
  rw[hx,if_neg h]
  refine(a5u w B gL _ b cL _ _ _ _ _ t m.box (by omega) (by omega) c hx).mono ?_
  rintro e w' ⟨rfl,rfl⟩
  exact⟨rfl,H'.up,.refl _ _⟩
theorem Oe{M:Mm}{w:Wq}{B lo b:Nat}{Z:Nat->Prop}(t:Int)(H:Has Xb w B lo Z M)(hM:Ok M)(hb:b<M.heads.length) :
  Calls Pg 207 #[.pointer (some ⟨B,0,none⟩),O J b,O J t] w fun e w'=>e=.returned (.tuple #[])/\Has Xb w' B lo (Up w Z) (L8 M b t)/\Fine w w' Z:=by
 have hl:=hM.nl
 have hh:=hM.nh.2
 have H':=H
 obtain⟨aS,aH,aF,aL,cS,cH,cF,cL,m,hf⟩:=H
 obtain⟨gL,rfl,oL,lL,-,-⟩:=Bh m.c.l (by omega)
 obtain⟨c,fz⟩:=Fe m.c.l (j:=b) (by omega)
 rw[<- Ls (by omega)] at c
 unfold L8
 by_cases h:Ce M b=t
 ·rw[h] at c
  refine(a2q w B gL _ b cL _ _ _ _ t m.box (by omega) (by omega) c fz).mono ?_
  rintro e w' ⟨rfl,rfl⟩
  rw[if_pos h]
  exact⟨rfl,Oj m hf⟩
 ·have hx:(Ce M b==t)=false:=by simpa using h
  rw[if_neg h]
  refine(a6i w B gL _ b cL _ _ _ _ _ t m.box (by omega) (by omega) c hx).mono ?_
  rintro e w' ⟨rfl,rfl⟩
  exact⟨rfl,H'.up,.refl _ _⟩
theorem Lu{M:Mm}{w:Wq}{B lo b:Nat}{Z:Nat->Prop}(t:Int)(H:Has Xb w B lo Z M)(hM:Ok M)(hb:b<M.heads.length) :
  Calls Pg 121 #[.pointer (some ⟨B,0,none⟩),O J b,O J t] w fun e w'=>e=.returned (.tuple #[])/\Has Xb w' B lo (Up w Z) (L8 M b t)/\Fine w w' Z:=by
 have hl:=hM.nl
 have hh:=hM.nh.2
 have H':=H
 obtain⟨aS,aH,aF,aL,cS,cH,cF,cL,m,hf⟩:=H
 obtain⟨gL,rfl,oL,lL,-,-⟩:=Bh m.c.l (by omega)
 obtain⟨c,fz⟩:=Fe m.c.l (j:=b) (by omega)
 rw[<- Ls (by omega)] at c
 unfold L8
 by_cases h:Ce M b=t
 ·rw[h] at c
  refine(Yc w B gL _ b cL _ _ _ _ t m.box (by omega) (by omega) c fz).mono ?_
  rintro e w' ⟨rfl,rfl⟩
  rw[if_pos h]
  exact⟨rfl,Oj m hf⟩
 ·have hx:(Ce M b==t)=false:=by simpa using h
  rw[if_neg h]
  refine(Zq w B gL _ b cL _ _ _ _ _ t m.box (by omega) (by omega) c hx).mono ?_
  rintro e w' ⟨rfl,rfl⟩
  exact⟨rfl,H'.up,.refl _ _⟩
end
section
variable {Xb:Ex}
structure Tk where
 busy:Bool
 f:Fr
 held:List Int
structure Wd where
 m:Mm
 ts:List Tk
end
section
def a2m(m:Mm)(t:Tk):Tk:=⟨!(lkF m t.f).done,lkF m t.f,if (lkF m t.f).done && (lkF m t.f).e==0 then t.held ++ [(lkF m t.f).slot] else t.held⟩
def b2m(t:Tk):Tk:=⟨false,Ag t.f 0,t.held.erase t.f.c.slot⟩
section
variable {w:Wd} {i:Nat} {t:Tk}
end
end
section
section
variable {w:Wd} {i:Nat} {t t':Tk}
def a2n(g:Fr)(t:Tk):Tk:=⟨!g.done,g,t.held⟩
end
end
section
structure Pk where
 task:Int
 step:Bool
 tick:Bool
 c:Cl
def stepT(m:Mm)(i:Nat)(t:Tk):Mm × Tk :=
 if t.f.c.kind=1 then (lkM m t.f,a2m m t) else if t.f.c.kind=2 then (adM i m t.f,a2n (adF m t.f) t) else if t.f.c.kind=3 then (drM i m t.f,a2n (drF m t.f) t)
 else if t.f.c.kind=6 then (if t.f.c.slot∈t.held then Em m t.f.c.slot else m,b2m t) else (swM i m t.f,a2n (swF m t.f) t)
def idle:Tk:=⟨false,⟨⟨0,0,0,0,0,0⟩,0,0,0,0,0,[],false,0⟩,[]⟩
def Fq(w:Wd)(x:Pk):Tk:=w.ts.getD x.task.toNat idle
def Y0(w:Wd)(x:Pk):Int :=
 if (Fq w x).busy then 8 else if D5 w.m.slots.length w.m.heads.length x.c≠0 then D5 w.m.slots.length w.m.heads.length x.c
 else if x.c.kind=1/\(Fq w x).held.length=100 then 7 else if x.c.kind=6/\x.c.slot ∉ (Fq w x).held then 6 else 0
def doE(w:Wd)(x:Pk):Int :=
 if x.tick then (if w.m.now=1000000 then 7 else 0) else if ¬ (0<=x.task/\x.task<w.ts.length) then 5
 else if x.step then (if (Fq w x).busy then 0 else 8) else Y0 w x
def doW(w:Wd)(x:Pk):Wd :=
 if x.tick then ⟨{ w.m with now:=w.m.now+1 },w.ts⟩
 else if x.step then ⟨(stepT w.m x.task.toNat (Fq w x)).1,w.ts.set x.task.toNat (stepT w.m x.task.toNat (Fq w x)).2⟩
 else ⟨w.m,w.ts.set x.task.toNat ⟨true,Cm x.c,(Fq w x).held⟩⟩
section
variable {w:Wd} {i:Nat} {t:Tk}
theorem X9{nS nH:Nat}{c:Cl}(h:D5 nS nH c=0):1<=c.kind/\c.kind<=6:=by
 unfold D5 at h
 by_cases h1:c.kind=1\/c.kind=3
 ·omega
 rw[if_neg h1] at h
 by_cases h2:c.kind=2
 ·omega
 rw[if_neg h2] at h
 by_cases h3:c.kind=4\/c.kind=5
 ·omega
 rw[if_neg h3] at h
 by_cases h4:c.kind=6
 ·omega
 rw[if_neg h4] at h
 omega
end
end
end Go.Proofs.YthhgoenomehobaaGreat.mm
