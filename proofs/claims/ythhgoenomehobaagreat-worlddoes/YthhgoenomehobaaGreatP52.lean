/- Parts. -/
import Derived.Test.YthhgoenomehobaaGreatP49
import Derived.Test.YthhgoenomehobaaGreatP48
import Derived.Test.YthhgoenomehobaaGreatP50
import Derived.Test.YthhgoenomehobaaGreatP51
import Derived.Test.YthhgoenomehobaaGreatP41
import Derived.Test.YthhgoenomehobaaGreatP19
namespace Go.Proofs.YthhgoenomehobaaGreat.mm
set_option maxRecDepth 100000
set_option linter.unusedVariables false
open Go.Value renaming int → O, slice → Y
open Go.IntKind renaming i64 → J
open Go.Proofs.Tryz renaming prog → Pg
open Go renaming undef → Uz, World → Wq
open Go.ChangeShapes Go.WideShapes Go.ChangeAt Go.RowKit Go.Joins Go.Deep Go.Maps
set_option maxHeartbeats 6400000
section
section
variable {w W3:Wq} {n0 lo2:Nat} {aS aH aF aL:Option Addr} {cS cH cF cL g cT n:Nat} {M:Mm} {l:List (Tk × TkV)} {x:Pk} {B lo:Nat}
theorem pk_on(h:PkH w W3 n0 lo2 aS aH aF aL cS cH cF cL g cT n M l x)(ht:x.tick=true)(hn:M.now≠1000000)(v0 v1 v11 v12:Value) :
  Code.wp Pg (H9 (H9 (H9 (Tryz.f22.body.getD .skip)))) (bodyPost Pg Tryz.f22 (Iw w ⟨M,l.map (·.1)⟩ x)) (Np w.heap.size v0 v1 v11 v12) W3:=by
 have hE:doE ⟨M,l.map (·.1)⟩ x=0:=by unfold doE;rw[if_pos ht,if_neg hn]
 have hW:doW ⟨M,l.map (·.1)⟩ x=⟨{ M with now:=M.now+1 },l.map (·.1)⟩:=by unfold doW;rw[if_pos ht]
 obtain⟨x0,x1,x2,x3,x4,x5,x6,x7,x8,xs⟩:=P6 h.bx
 obtain⟨q0,q1,q2,q3,q4,f0,f1,f2,f3,f4,qs⟩:=Af h.wm.m.box
 rw[ht] at x2
 have h0:=h.ok.now
 have hb:=h.wm
 have hwp:WP n0 w.heap.size ⟨{ M with now:=M.now+1 },l.map (·.1)⟩ W3 (W3.setCell ⟨w.heap.size,4,none⟩ (O J (M.now+1))) :=
  U6 (Z:=fun _=>True) ⟨aS,aH,aF,aL,cS,cH,cF,cL,hb.m.a9n (M.now+1),fun _ _=>trivial⟩ (hb.t.same fun k _ hk=>Below.heap_setCell _ _ _ _ (by dsimp only;exact fun e=>hb.ap w.heap.size (.inl rfl) (e ▸ hk))) hb.len hb.hlo hb.hlo2 ((Kept.of_below (Below.refl n0 W3) (Nat.le_refl _)).Yd _) rfl
 obtain⟨c0,c1,c2,c3,c4,c5,r6,t6,o6,b6,hQ⟩:=N9 hwp h.bz h.big h.bel hE hW.symm
 have R6:Hid _:=r6
 have T6:Hid _:=t6
 have HQ:Hid _:=hQ
 obtain⟨z0,z1,z2,z3,z4,z5,zs⟩:=Bc b6
 have h':(M.now==1000000)=false:=by simpa using hn
 have hw:IntKind.i64.wrap (M.now+1)=M.now+1:=by rw[IntKind.wrap_i64];omega
 clear r6 t6 hQ hwp hb h hE hW ht hn
 unfold Np
 conv=>arg 2;whnf
 go_wp2_with (first|(have h9:=R6.out;refine Ha rfl (.tmp 2) rfl rfl h9 ?_;clear h9 R6)|(have h9:=T6.out;refine Gz rfl (.tmp 4) (.tmp 29) rfl rfl rfl h9 o6 ?_;clear h9 T6))
 generalize (W3.setCell ⟨w.heap.size,4,none⟩ (O J (M.now+1))).setCells (w.heap.size+1+1) 0 [c0,c1,c2,c3,c4,c5]=W7 at *
 refine bodyPost_ret (v:=.tuple #[.agg #[c0,c1,c2,c3,c4,c5],O J 0]) (by simp[results,Tryz.results22,go_sem,z0,z1,z2,z3,z4,z5]) rfl HQ.out
theorem b1r(h:PkH w W3 n0 lo2 aS aH aF aL cS cH cF cL g cT n M l x)(ht:x.tick=false)(hx:¬ (0<=x.task/\x.task<n))(hE:Hid (doE ⟨M,l.map (·.1)⟩ x=5))(v0 v1 v11 v12:Value) :
  Code.wp Pg (H9 (H9 (H9 (Tryz.f22.body.getD .skip)))) (bodyPost Pg Tryz.f22 (Iw w ⟨M,l.map (·.1)⟩ x)) (Np w.heap.size v0 v1 v11 v12) W3:=by
 obtain⟨x0,x1,x2,x3,x4,x5,x6,x7,x8,xs⟩:=P6 h.bx
 obtain⟨q0,q1,q2,q3,q4,q5,qs⟩:=Bc h.wm.m.box
 rw[ht] at x2
 have hn5:n<=5:=by rw[<- h.wm.len];exact h.wm.t.few
 have HZ:Hid (W3.heap[w.heap.size+2]?=some (.cells #[Y none 0 0,Y none 0 0,Y none 0 0,Y none 0 0,O J 0,Y none 0 0] 28 (0,0))):=h.bz
 have Hb:Hid (Below w.heap.size w W3):=h.bel
 obtain⟨tk,htk⟩:∃ tk,tk=x.task:=⟨_,rfl⟩
 rw[<- htk] at x0 hx
 clear h ht htk
 have hsub:tk<0\/(¬ tk<0/\tk ≥ (n:Int)):=by omega
 clear hx
 unfold Np
 conv=>arg 2;whnf
 rcases hsub with h1|⟨h1,h2⟩
 all_goals
  go_wp2_with fail
  refine(Qq 5 _).mono ?_
  rintro e V ⟨rfl,hb⟩
  obtain⟨t6,r6,HR⟩:=Uj HZ.out Hb.out hE.out (by decide) hb
  clear hE Hb HZ hb x0 x1 x2 x3 x4 x5 x6 x7 x8 q0 q1 q2 q3 q4 q5
  go_wp2_with (refine Gz rfl (.tmp 4) (.tmp 43) rfl rfl rfl t6.out (by kernel_rfl) ?_;clear t6)
  generalize V.setCells (w.heap.size+1+1) 0 _=V2 at *
  obtain⟨r0,r1,r2,r3,r4,r5,rs⟩:=Bc r6.out
  refine bodyPost_ret (v:=.tuple #[.agg #[Y none 0 0,Y none 0 0,Y none 0 0,Y none 0 0,O J 0,Y none 0 0],O J 5]) (by simp[results,Tryz.results22,go_sem,r0,r1,r2,r3,r4,r5]) rfl HR.out
theorem b1p{i:Nat}(h:PkH w W3 n0 lo2 aS aH aF aL cS cH cF cL g cT n M l x)(ht:x.tick=false)(hx:x.task=i)(hi:i<l.length)(hs:x.step=true)(hb:l[i].1.busy=false)(hE:Hid (doE ⟨M,l.map (·.1)⟩ x=8))(v0 v1 v11 v12:Value) :
  Code.wp Pg (H9 (H9 (H9 (Tryz.f22.body.getD .skip)))) (bodyPost Pg Tryz.f22 (Iw w ⟨M,l.map (·.1)⟩ x)) (Np w.heap.size v0 v1 v11 v12) W3:=by
 obtain⟨x0,x1,x2,x3,x4,x5,x6,x7,x8,xs⟩:=P6 h.bx
 obtain⟨q0,q1,q2,q3,q4,q5,qs⟩:=Bc h.wm.m.box
 have d0:=(h.wm.t.busy hi).1
 rw[hb] at d0
 rw[ht] at x2
 rw[hs] at x1
 rw[hx] at x0
 have hn:(i:Int)<(n:Int):=by have:=h.wm.len;omega
 have hn5:n<=5:=by rw[<- h.wm.len];exact h.wm.t.few
 have HZ:Hid (W3.heap[w.heap.size+2]?=some (.cells #[Y none 0 0,Y none 0 0,Y none 0 0,Y none 0 0,O J 0,Y none 0 0] 28 (0,0))):=h.bz
 have Hb:Hid (Below w.heap.size w W3):=h.bel
 clear h ht hs hx hb
 unfold Np
 conv=>arg 2;whnf
 go_wp2_with fail
 refine(Qq 8 _).mono ?_
 rintro e V ⟨rfl,hb⟩
 obtain⟨t6,r6,HR⟩:=Uj HZ.out Hb.out hE.out (by decide) hb
 clear hE Hb HZ hb x0 x1 x2 x3 x4 x5 x6 x7 x8 q0 q1 q2 q3 q4 q5 d0
 go_wp2_with (refine Gz rfl (.tmp 4) (.tmp 119) rfl rfl rfl t6.out (by kernel_rfl) ?_;clear t6)
 generalize V.setCells (w.heap.size+1+1) 0 _=V2 at *
 obtain⟨r0,r1,r2,r3,r4,r5,rs⟩:=Bc r6.out
 refine bodyPost_ret (v:=.tuple #[.agg #[Y none 0 0,Y none 0 0,Y none 0 0,Y none 0 0,O J 0,Y none 0 0],O J 8]) (by simp[results,Tryz.results22,go_sem,r0,r1,r2,r3,r4,r5]) rfl HR.out
end
theorem a1k{W:Wd}(x:Pk)(aS aH aF aL:Option Addr)(cS cH cF cL:Nat)(aT:Option Addr)(cT:Nat)(w:Wq)(hv:D8 0 w (.agg #[Y aS W.m.slots.length cS,Y aH W.m.heads.length cH,Y aF W.m.free.length cF,Y aL W.m.locks.length cL,O J W.m.now,Y aT W.ts.length cT]) W)(hW:wE W=0):Calls Pg 22 #[.agg #[Y aS W.m.slots.length cS,Y aH W.m.heads.length cH,Y aF W.m.free.length cF,Y aL W.m.locks.length cL,O J W.m.now,Y aT W.ts.length cT],.agg #[O J x.task,.bool x.step,.bool x.tick,O J x.c.kind,O J x.c.a,O J x.c.b,O J x.c.time,O J x.c.bk,O J x.c.slot]] w (Iw w W x):=by
 refine Ya x aS aH aF aL cS cH cF cL aT cT w hv hW ?_
 clear hv hW
 intro W3 n0 lo2 aS aH aF aL cS cH cF cL g cT n M l hwm hM hw bx bz big bel C hC v0 v1 v11 v12
 subst hC
 have h:PkH w W3 n0 lo2 aS aH aF aL cS cH cF cL g cT n M l x:=⟨hwm,hM,hw,bx,bz,big,bel⟩
 obtain⟨-,-,-,htk⟩:=Jd.1 hw
 by_cases ht:x.tick=true
 ·by_cases hn:M.now=1000000
  ·exact b1o h ht hn v0 v1 v11 v12
  ·exact pk_on h ht hn v0 v1 v11 v12
 have ht':x.tick=false:=by simpa using ht
 have hlen:((Wd.mk M (l.map (·.1))).ts.length:Nat)=n:=by
  show (l.map (·.1)).length=n
  rw[List.length_map,hwm.len]
 by_cases hx:0<=x.task/\x.task<n
 rotate_left
 ·refine b1r h ht' hx ?_ v0 v1 v11 v12
  show doE _ _=5
  unfold doE
  rw[if_neg ht,if_pos (by rw[hlen];exact hx)]
 obtain⟨i,hi⟩:∃ i:Nat,x.task=i:=⟨x.task.toNat,(Int.toNat_of_nonneg hx.1).symm⟩
 have hil:i<l.length:=by rw[hwm.len];omega
 have hin:0<=x.task/\x.task<((Wd.mk M (l.map (·.1))).ts.length:Nat):=by rw[hlen];exact hx
 have hta:Fq ⟨M,l.map (·.1)⟩ x=l[i].1:=by
  have:=a9w l x (by rw[hi];exact hil) M
  simpa [hi] using this
 have hti:x.task.toNat=i:=by rw[hi];rfl
 obtain⟨h5,hsl,hf⟩:=Oc.1 (htk l[i].1 (List.mem_map.2 ⟨l[i],List.getElem_mem hil,rfl⟩))
 by_cases hs:x.step=true
 ·have e1:doE ⟨M,l.map (·.1)⟩ x=if l[i].1.busy then 0 else 8:=by unfold doE;rw[if_neg ht,if_neg (fun hh=>hh hin),if_pos hs,hta]
  have e2:doW ⟨M,l.map (·.1)⟩ x=⟨(stepT M i l[i].1).1,(l.map (·.1)).set i (stepT M i l[i].1).2⟩:=by unfold doW;rw[if_neg ht,if_pos hs,hta,hti]
  cases hb:l[i].1.busy with
  | false=>exact b1p h ht' hi hil hs hb (by show doE _ _=8;rw[e1,hb];rfl) v0 v1 v11 v12
  | true =>
   have hft:=a3b.1 (hf hb)
   have hE:Hid (doE ⟨M,l.map (·.1)⟩ x=0):=by show doE _ _=0;rw[e1,hb];rfl
   have hk:=X9 hft.call
   by_cases h1:l[i].1.f.c.kind=1
   ·exact b1q h ht' hi hil hs hb hft h1 h5 hE e2 v0 v1 v11 v12
   by_cases h6:l[i].1.f.c.kind=6
   ·exact a8p h ht' hi hil hs hb h6 h5 hsl hE e2 v0 v1 v11 v12
   have hor:l[i].1.f.c.kind=2\/l[i].1.f.c.kind=3\/l[i].1.f.c.kind=4\/l[i].1.f.c.kind=5:=by omega
   rcases hor with h2|h2|h2
   ·exact Vq h ht' hi hil hs hb hft (.inl ⟨h2,rfl⟩) hE e2 v0 v1 v11 v12
   ·exact Vq h ht' hi hil hs hb hft (.inr (.inl ⟨h2,rfl⟩)) hE e2 v0 v1 v11 v12
   ·exact Vq h ht' hi hil hs hb hft (.inr (.inr ⟨h2,rfl⟩)) hE e2 v0 v1 v11 v12
 ·have hs':x.step=false:=by simpa using hs
  refine a8n h ht' hi hil hs' h5 rfl ?_ ?_ v0 v1 v11 v12
  ·show doE _ _=_
   unfold doE
   rw[if_neg ht,if_neg (fun hh=>hh hin),if_neg hs]
   unfold Y0 Yl
   rw[hta]
   have q1:((x.c.kind=1/\l[i].1.held.length=100) ↔ (x.c.kind=1/\100<=l[i].1.held.length)):=⟨fun ⟨a,b⟩=>⟨a,by omega⟩,fun ⟨a,b⟩=>⟨a,by omega⟩⟩
   have q2:((x.c.kind=6/\x.c.slot ∉ l[i].1.held) ↔ (x.c.kind=6/\hasB l[i].1.held x.c.slot=false)):=by rw[Vb]
   simp only[q1,q2]
  ·show doW _ _=_
   unfold doW;rw[if_neg ht,if_neg hs,hta,hti]
end
section
theorem Xy.a0d{w:Wq}{lo:Nat}{aT:Option Addr}{cT:Nat}{l:List (Tk × TkV)}(T:Xy w lo (Y aT l.length cT) l)(m0:l.length*160<=140737488351232)(hm:∀ p∈l,p.1.held.length*8<=140737488351232)(km:∀ p∈l,p.1.f.keys.length*16<=140737488351232):Ef w aT cT l/\THi lo aT l:=by
 have hK:∀ p∈l,Am w p.2.aK p.2.cK p.1.f.keys:=fun p hp=>Am.own (T.keys p hp).own (km p hp)
 have hH:∀ p∈l,Cj w p.2.aH p.2.cH p.1.held:=fun p hp=>Cj.own (T.held p hp) (hm p hp)
 have hlo:∀ ad,aT=some ad->lo<=ad.block:=fun ad e=>(T.row.lt ad.block (by rw[e];rfl)).1
 refine⟨?_,hlo,fun p hp a ha=>((T.keys p hp).lt a ha).1,fun p hp a ha=>((T.held p hp).lt a.block (by rw[ha];rfl)).1⟩
 rcases T.row.2 with ⟨h,h0⟩|⟨g,cap,cur,h,-,-,h2,-⟩
 ·injection h with h1 h2 h3
  exact⟨by omega,m0,fun _=>h3,.inl h0,hK,hH⟩
 ·injection h with h1 h2' h3
  subst h1 h3
  refine⟨?_,m0,(fun h=>by cases h),.inr ⟨g,0,rfl,fun i hi q hq=>?_⟩,hK,hH⟩
  ·exact h2
  ·rw[Nat.zero_add,T.row.cellAt _ (by omega),Ho hi hq]
theorem a8l{W:Wd}{lo:Nat}{V:Wq}{aS aH aF aL:Option Addr}{cS cH cF cL:Nat}{aT:Option Addr}{cT:Nat}(h:D8 lo V (.agg #[Y aS W.m.slots.length cS,Y aH W.m.heads.length cH,Y aF W.m.free.length cF,Y aL W.m.locks.length cL,O J W.m.now,Y aT W.ts.length cT]) W) :
  Calls Pg 14 #[.agg #[Y aS W.m.slots.length cS,Y aH W.m.heads.length cH,Y aF W.m.free.length cF,Y aL W.m.locks.length cL,O J W.m.now,Y aT W.ts.length cT]] V fun e w'=>∃ v,e=.returned v/\D8 V.heap.size w' v W/\Below V.heap.size V w':=by
 obtain⟨lt,A,hi,hts,hT,hTh⟩:=h.parts
 have hl:lt.length=W.ts.length:=by rw[hts,List.length_map]
 have h:=Rj W.m lt aS aH aF aL cS cH cF cL aT cT V A hT
 rw[<- hts,hl] at h
 refine h.mono ?_
 rintro e w' ⟨gS,gH,gF,gL,kS,kH,kF,kL,bT,dT,l1,lo2,rfl,hR,-,hN,hm,hlo,hb⟩
 have hl1:l1.length=W.ts.length:=by rw[<- hm,List.length_map]
 have hp:∀ p∈l1,∃ q∈lt,q.1=p.1:=fun p hp=>by
  have:p.1∈W.ts:=by rw[<- hm];exact List.mem_map.2 ⟨p,hp,rfl⟩
  rw[hts] at this
  obtain⟨q,hq,e⟩:=List.mem_map.1 this
  exact⟨q,hq,e⟩
 obtain⟨r,th⟩:=hN.a0d (by have:=hT.max;omega) (fun p h=>by obtain⟨q,hq,e⟩:=hp p h;rw[<- e];exact(hT.held q hq).max) (fun p h=>by obtain⟨q,hq,e⟩:=hp p h;rw[<- e];exact(hT.keys q hq).max)
 refine⟨_,rfl,⟨gS,gH,gF,gL,kS,kH,kF,kL,bT,dT,l1,by rw[hl1],hR.at A.s.max A.h.max A.f.max A.l.max,hR.hi,hm.symm,r,th.mono hlo⟩,hb⟩
def Wy(s:String):Array Oper:=#[⟨some 80,.move (.tmp 15),36,s,#[],none⟩,⟨some 81,.binOp .neq 36 (.tmp 80) (.const (O J 0)) 36,4,s,#[⟨0,.data⟩],none⟩,⟨some 82,.move (.tmp 81),4,s,#[⟨1,.data⟩],none⟩,⟨some 83,.load 28 (.tmp 14),28,s,#[⟨2,.guard⟩],some (2,false)⟩,⟨some 84,.move (.tmp 2),3,s,#[⟨2,.guard⟩],some (2,false)⟩,⟨some 85,.move (.tmp 3),3,s,#[⟨2,.guard⟩],some (2,false)⟩,⟨some 86,.call { callee:=.value (.func 21),args:=#[.tmp 84,.tmp 85],argTypes:=#[3,3] },25,s,#[⟨4,.data⟩,⟨5,.data⟩,⟨2,.chain⟩,⟨2,.guard⟩],some (2,false)⟩,⟨some 87,.move (.tmp 4),3,s,#[⟨2,.guard⟩],some (2,false)⟩,⟨some 88,.makeSlice 26 (.tmp 87) (.tmp 87),26,s,#[⟨7,.data⟩,⟨7,.data⟩,⟨2,.guard⟩],some (2,false)⟩,⟨some 89,.build 28 #[(0,.tmp 86),(1,.tmp 88)],28,s,#[⟨6,.data⟩,⟨8,.data⟩,⟨2,.guard⟩],some (2,false)⟩,⟨some 90,.call { callee:=.value (.func 20),args:=#[.tmp 83,.tmp 89],argTypes:=#[28,28] },4,s,#[⟨3,.data⟩,⟨9,.data⟩,⟨6,.chain⟩,⟨2,.guard⟩],some (2,false)⟩,⟨some 91,.unOp .not 4 (.tmp 90),4,s,#[⟨10,.data⟩,⟨2,.guard⟩],some (2,false)⟩,⟨some 92,.pick (.tmp 82) (.const (.bool true)) (.tmp 91),4,s,#[⟨2,.data⟩,⟨11,.data⟩],none⟩]
def dN:List Nat:=[80,81,82,83,84,85,86,87,88,89]
def b3w(v:Value)(m k n:Nat):Nat->Value->Wq->Prop
 | 0,u,_=>u=O J 0
 | 1,u,_=>u=.bool false
 | 2,u,_=>u=.bool false
 | 3,u,_=>u=v
 | 4,u,_=>u=O J m
 | 5,u,_=>u=O J k
 | 6,u,V=>Ans 0 V u (L6 m k)
 | 7,u,_=>u=O J n
 | 8,u,V=>∃ b,u=Y (some ⟨b,0,none⟩) n n/\Ef V (some ⟨b,0,none⟩) n (List.replicate n (idle,Nc))
 | 9,u,V=>D8 0 V u (Px m k n)
 | _,_,_=>True
theorem a5m(v:Value)(m k n:Nat):∀ i u w w',b3w v m k n i u w->Below w.heap.size w w'->b3w v m k n i u w'
 | 0,_,_,_,h,_=>h
 | 1,_,_,_,h,_=>h
 | 2,_,_,_,h,_=>h
 | 3,_,_,_,h,_=>h
 | 4,_,_,_,h,_=>h
 | 5,_,_,_,h,_=>h
 | 6,_,_,_,h,hb=>Ans.below h hb
 | 7,_,_,_,h,_=>h
 | 8,_,_,_,⟨b,e,r⟩,hb=>⟨b,e,r.below hb⟩
 | 9,_,_,_,h,hb=>D8.below h hb
 | _+10,_,_,_,_,_=>trivial
theorem a6g(V:Wq)(n:Nat)(h5:n<=5):∃ X,(Instr.makeSlice 26 (O J (n:Int)) (O J (n:Int))).run Pg V=.ok (Y (some ⟨V.heap.size,0,none⟩) n n) (V.alloc (.cells X 49))/\Ef (V.alloc (.cells X 49)) (some ⟨V.heap.size,0,none⟩) n (List.replicate n (idle,Nc)):=by
 obtain⟨i0,hi0,hz0,hz1,hz2⟩:=info_parts iT
 have h:=run_make (P:=Pg) V 26 49 i0 _ Tryz.underlying26 hi0 hz0 .i64 .i64 (n:Int) (n:Int) (by omega) (Int.le_refl _) (by rw[hz2];omega) (by omega)
 simp only[Int.toNat_natCast,hz1] at h
 exact⟨_,h,(newRow V _ n (Vk n) h5).below ⟨rfl,rfl,rfl,Nat.le_refl _,fun _ _=>rfl⟩⟩
theorem Vz{ops:Array Oper}{A:Act}{x:Nat->Value}{o o2:Oper}{D:List Nat}(hg:o.guard=some (2,false))(h2:ops[2]?=some o2)(hd:o2.dst=some 82)(hc:(D.contains 82 && decide (82<A.tmps.size))=true)(hx:x 82=.bool false):Region.wanted o (yielded ops (mkA A D x).tmps)=true:=by
 rw[Bool.and_eq_true] at hc
 have e:(mkA A D x).tmps[82]?=some (.bool false):=by rw[J6,if_pos ⟨by simpa using hc.1,by simpa using hc.2⟩,hx]
 unfold Region.wanted yielded
 simp[hg,h2,hd,e]
theorem b2d{Q:Exit->Act->Wq->Prop}{A:Act}{W:Wq}{id:Nat}{st:String}{m k n Bn:Nat}{v0 v1 v2 v3 v4 v5:Value}(hsz:A.tmps.size=117)(e2:A.eval (.tmp 2)=O J m)(e3:A.eval (.tmp 3)=O J k)(e4:A.eval (.tmp 4)=O J n)(e14:A.eval (.tmp 14)=.pointer (some ⟨Bn,0,none⟩))(e15:A.eval (.tmp 15)=O J 0)
  (hm:m<=12) (hk1:1<=k) (hk4:k<=4) (hn5:n<=5) (hbx:W.heap[Bn]?=some (.cells #[v0,v1,v2,v3,v4,v5] 28 (0,0))) (hN:D8 0 W (.agg #[v0,v1,v2,v3,v4,v5]) (Px m k n))
  (fin:∀ x V,Below W.heap.size W V->x 92=.bool false->Q .normal (mkA A (dN ++ [90,91,92]) x) V):(Code.region id (Wy st) true).wp Pg Q A W:=by
 refine Og (by kernel_rfl) (mkA A (dN ++ [90,91,92])) (Zj A _) dN (by decide) 10 2 rfl rfl (by kernel_rfl) (by kernel_rfl) (by kernel_rfl) (b3w (.agg #[v0,v1,v2,v3,v4,v5]) m k n) (a5m _ m k n) ?_ ?_
 ·intro i hi x V hb hout hpre
  have ev:∀ q,((dN ++ [90,91,92]).contains q && decide (q<117))=true->(mkA A (dN ++ [90,91,92]) x).tmps[q]?.getD Uz=x q:=fun q h=>J7 x (by rw[hsz];exact h)
  have E2:=Gt (A:=A) (D:=dN ++ [90,91,92]) x (k:=2) rfl e2
  have E3:=Gt (A:=A) (D:=dN ++ [90,91,92]) x (k:=3) rfl e3
  have E4:=Gt (A:=A) (D:=dN ++ [90,91,92]) x (k:=4) rfl e4
  have E14:=Gt (A:=A) (D:=dN ++ [90,91,92]) x (k:=14) rfl e14
  have E15:=Gt (A:=A) (D:=dN ++ [90,91,92]) x (k:=15) rfl e15
  have hbV:=(hb.block _ (lt_of_block hbx)).trans hbx
  have put:∀ q u,(dN ++ [90,91,92]).contains q=true->(mkA A (dN ++ [90,91,92]) x).put (some q) u=mkA A (dN ++ [90,91,92]) (Di x q u):=fun q u h=>Y7 (by simpa using h) u
  have wt:∀ {q:Nat} {o:Oper},(Wy st)[q]?=some o->o.guard=some (2,false)->x 82=.bool false->Region.wanted o (yielded (Wy st) (mkA A (dN ++ [90,91,92]) x).tmps)=true:=fun _ hg h2=>Vz hg rfl rfl (by rw[hsz];rfl) h2
  obtain⟨z0,z1,z2,z3,z4,z5,zs⟩:=Bc hbV
  obtain⟨X,hX,hT⟩:=a6g V n hn5
  have h9:i=9->∃ u0 u1 u2 u3 u4 b,x 86=.agg #[u0,u1,u2,u3,u4]/\x 88=Y (some ⟨b,0,none⟩) n n/\D8 0 V (.agg #[u0,u1,u2,u3,u4,Y (some ⟨b,0,none⟩) n n]) (Px m k n):=fun e=>by
   subst e
   obtain⟨aS,aH,aF,aL,cS,cH,cF,cL,h6,A6,hi6⟩:=(hpre 6 (by decide) (by kernel_rfl):Ans 0 V (x 86) (L6 m k))
   obtain⟨b,h8,T8⟩:=(hpre 8 (by decide) (by kernel_rfl):∃ b,x 88=Y (some ⟨b,0,none⟩) n n/\Ef V (some ⟨b,0,none⟩) n (List.replicate n (idle,Nc)))
   refine⟨_,_,_,_,_,b,h6,h8,aS,aH,aF,aL,cS,cH,cF,cL,some ⟨b,0,none⟩,n,List.replicate n (idle,Nc),?_,A6,a3d _ _ _ _,?_,T8,⟨fun _ _=>Nat.zero_le _,fun _ _ _ _=>Nat.zero_le _,fun _ _ _ _=>Nat.zero_le _⟩⟩
   ·show _=Value.agg #[Y aS (L6 m k).slots.length cS,Y aH (L6 m k).heads.length cH,Y aF (L6 m k).free.length cF,Y aL (L6 m k).locks.length cL,O J (L6 m k).now,Y _ (List.replicate n idle).length n]
    rw[List.length_replicate]
   ·show List.replicate n idle=_
    rw[List.map_replicate]
  generalize mkA A (dN ++ [90,91,92]) x=A' at *
  obtain⟨o',ho⟩:∃ o',(Wy st)[i]?=some o':=⟨_,Array.getElem?_eq_getElem (show i<13 by omega)⟩
  obtain rfl|rfl|rfl|rfl|rfl|rfl|rfl|rfl|rfl|rfl:i=0\/i=1\/i=2\/i=3\/i=4\/i=5\/i=6\/i=7\/i=8\/i=9:=by omega
  all_goals
   have ho2:=ho
   simp only[Wy,List.getElem?_toArray,List.getElem?_cons_zero,List.getElem?_cons_succ,Option.some.injEq] at ho2
   subst ho2
  ·exact Ak ho (Ai rfl) (v:=O J 0) (w':=V) (by simp[execOp,go_sem,E15]) ⟨_,put 80 _ rfl,rfl,Below.refl _ _⟩
  ·have p:=(ev 80 rfl).trans (hpre 0 (by decide) (by kernel_rfl))
   exact Ak ho (Ai rfl) (v:=.bool false) (w':=V) (by simp[execOp,go_sem,p]) ⟨_,put 81 _ rfl,rfl,Below.refl _ _⟩
  ·have p:=(ev 81 rfl).trans (hpre 1 (by decide) (by kernel_rfl))
   exact Ak ho (Ai rfl) (v:=.bool false) (w':=V) (by simp[execOp,go_sem,p]) ⟨_,put 82 _ rfl,rfl,Below.refl _ _⟩
  ·have h82:x 82=.bool false:=hpre 2 (by decide) (by kernel_rfl)
   have hw:=wt ho rfl h82
   refine Ak ho hw (v:=.agg #[v0,v1,v2,v3,v4,v5]) (w':=V) (by simp[execOp,go_sem,E14,z0,z1,z2,z3,z4,z5]) ?_
   exact⟨_,put 83 _ rfl,rfl,Below.refl _ _⟩
  ·have h82:x 82=.bool false:=hpre 2 (by decide) (by kernel_rfl)
   have hw:=wt ho rfl h82
   refine Ak ho hw (v:=O J m) (w':=V) (by simp[execOp,go_sem,E2]) ?_
   exact⟨_,put 84 _ rfl,rfl,Below.refl _ _⟩
  ·have h82:x 82=.bool false:=hpre 2 (by decide) (by kernel_rfl)
   have hw:=wt ho rfl h82
   refine Ak ho hw (v:=O J k) (w':=V) (by simp[execOp,go_sem,E3]) ?_
   exact⟨_,put 85 _ rfl,rfl,Below.refl _ _⟩
  ·have p4:=(ev 84 rfl).trans (hpre 4 (by decide) (by kernel_rfl))
   have p5:=(ev 85 rfl).trans (hpre 5 (by decide) (by kernel_rfl))
   have hF:∀ args V,(callFunc 21 args).run Pg V=.ok (.enter 21 args) V:=fun _ _=>by kernel_rfl
   refine Qe ho (wt ho rfl (hpre 2 (by decide) (by kernel_rfl))) (f:=21) (args:=#[O J m,O J k]) (by simp[go_sem,p4,p5,hF]) ((b2e m k V hm hk1 hk4).mono ?_)
   rintro e w' ⟨v,rfl,hA,hbw⟩
   exact⟨v,rfl,_,put 86 _ rfl,hA.mono (Nat.zero_le _),hbw⟩
  ·have h82:x 82=.bool false:=hpre 2 (by decide) (by kernel_rfl)
   have hw:=wt ho rfl h82
   refine Ak ho hw (v:=O J n) (w':=V) (by simp[execOp,go_sem,E4]) ?_
   exact⟨_,put 87 _ rfl,rfl,Below.refl _ _⟩
  ·have p:=(ev 87 rfl).trans (hpre 7 (by decide) (by kernel_rfl))
   exact Ak ho (wt ho rfl (hpre 2 (by decide) (by kernel_rfl))) (v:=Y (some ⟨V.heap.size,0,none⟩) n n) (w':=V.alloc (.cells X 49)) (by simp[execOp,p,Act.eval,hX,Result.andThen]) ⟨_,put 88 _ rfl,⟨_,rfl,hT⟩,A7 _ _⟩
  ·have q6:=ev 86 rfl
   have q8:=ev 88 rfl
   refine Exists.elim (h9 rfl) fun u0 h=>?_
   refine Exists.elim h fun u1 h=>?_
   refine Exists.elim h fun u2 h=>?_
   refine Exists.elim h fun u3 h=>?_
   refine Exists.elim h fun u4 h=>?_
   refine Exists.elim h fun b h=>?_
   have q6':=q6.trans h.1
   have q8':=q8.trans h.2.1
   exact Ak ho (wt ho rfl (hpre 2 (by decide) (by kernel_rfl))) (v:=.agg #[u0,u1,u2,u3,u4,Y (some ⟨b,0,none⟩) n n]) (w':=V) (by simp[execOp,go_sem,q6',q8']) ⟨_,put 89 _ rfl,h.2.2,Below.refl _ _⟩
 ·intro x V hb hout hφ
  have ev:∀ q,((dN ++ [90,91,92]).contains q && decide (q<117))=true->(mkA A (dN ++ [90,91,92]) x).tmps[q]?.getD Uz=x q:=fun q h=>J7 x (by rw[hsz];exact h)
  have put:∀ x q u,(dN ++ [90,91,92]).contains q=true->(mkA A (dN ++ [90,91,92]) x).put (some q) u=mkA A (dN ++ [90,91,92]) (Di x q u):=fun x q u h=>Y7 (by simpa using h) u
  have h2:x 82=.bool false:=hφ 2 (by decide)
  have h3:x 83=.agg #[v0,v1,v2,v3,v4,v5]:=hφ 3 (by decide)
  have h9:D8 0 V (x 89) (Px m k n):=hφ 9 (by decide)
  have wt:∀ (y:Nat->Value) {q:Nat} {o:Oper},(Wy st)[q]?=some o->o.guard=some (2,false)->y 82=.bool false->Region.wanted o (yielded (Wy st) (mkA A (dN ++ [90,91,92]) y).tmps)=true:=fun y _ _ _ hg h2=>Vz hg rfl rfl (by rw[hsz];rfl) h2
  have q3:=(ev 83 rfl).trans h3
  have q9:=ev 89 rfl
  have hF:∀ args V,(callFunc 20 args).run Pg V=.ok (.enter 20 args) V:=fun _ _=>by kernel_rfl
  have hS:=Gy V (hN.below hb) h9
  have ho:(Wy st)[10]?=some ⟨some 90,.call { callee:=.value (.func 20),args:=#[.tmp 83,.tmp 89],argTypes:=#[28,28] },4,st,#[⟨3,.data⟩,⟨9,.data⟩,⟨6,.chain⟩,⟨2,.guard⟩],some (2,false)⟩:=rfl
  have ho1:(Wy st)[11]?=some ⟨some 91,.unOp .not 4 (.tmp 90),4,st,#[⟨10,.data⟩,⟨2,.guard⟩],some (2,false)⟩:=rfl
  have ho2:(Wy st)[12]?=some ⟨some 92,.pick (.tmp 82) (.const (.bool true)) (.tmp 91),4,st,#[⟨2,.data⟩,⟨11,.data⟩],none⟩:=rfl
  have hw:=wt x ho rfl h2
  have pt:=put x 90 (.bool true) rfl
  generalize mkA A (dN ++ [90,91,92]) x=A0 at *
  refine Qe ho hw (f:=20) (args:=#[.agg #[v0,v1,v2,v3,v4,v5],x 89]) (by simp[go_sem,q3,q9,hF]) (hS.mono ?_)
  rintro e w' ⟨he,hbw⟩
  refine⟨_,he,?_⟩
  rw[show (Act.put A0 (Oper.dst _) _)=_ from pt]
  have ev2:∀ y q,((dN ++ [90,91,92]).contains q && decide (q<117))=true->(mkA A (dN ++ [90,91,92]) y).tmps[q]?.getD Uz=y q:=fun y q h=>J7 y (by rw[hsz];exact h)
  have r0:=ev2 (Di x 90 (.bool true)) 90 rfl
  have r0':Di x 90 (.bool true) 90=.bool true:=by simp[Di]
  rw[r0'] at r0
  have hw1:=wt (Di x 90 (.bool true)) ho1 rfl (by simp[Di,h2])
  have pt1:=put (Di x 90 (.bool true)) 91 (.bool false) rfl
  generalize mkA A (dN ++ [90,91,92]) (Di x 90 (.bool true))=A1 at *
  refine Ak ho1 hw1 (v:=.bool false) (w':=w') (by simp[execOp,go_sem,r0]) ?_
  rw[show (Act.put A1 (Oper.dst _) _)=_ from pt1]
  have r1:=ev2 (Di (Di x 90 (.bool true)) 91 (.bool false)) 91 rfl
  have r2:=ev2 (Di (Di x 90 (.bool true)) 91 (.bool false)) 82 rfl
  have r1':Di (Di x 90 (.bool true)) 91 (.bool false) 91=.bool false:=by simp[Di]
  have r2':Di (Di x 90 (.bool true)) 91 (.bool false) 82=.bool false:=by simp[Di,h2]
  rw[r1'] at r1
  rw[r2'] at r2
  have pt2:=put (Di (Di x 90 (.bool true)) 91 (.bool false)) 92 (.bool false) rfl
  generalize mkA A (dN ++ [90,91,92]) (Di (Di x 90 (.bool true)) 91 (.bool false))=A2 at *
  refine Ak ho2 (Ai rfl) (v:=.bool false) (w':=w') (by simp[execOp,go_sem,r1,r2]) ?_
  rw[show (Act.put A2 (Oper.dst _) _)=_ from pt2]
  exact fin _ w' (hb.trans (hbw.mono hb.size)) (by simp[Di])
end
section
theorem a6w(w:Wq)(v0 v1 v2 v3 v4 v5:Value):Hid ((w.alloc (.cells #[Y none 0 0,Y none 0 0,Y none 0 0,Y none 0 0,O J 0,Y none 0 0] 28)).there w.heap.size 0 6)/\Below w.heap.size w ((w.alloc (.cells #[Y none 0 0,Y none 0 0,Y none 0 0,Y none 0 0,O J 0,Y none 0 0] 28)).setCells w.heap.size 0 [v0,v1,v2,v3,v4,v5])/\((w.alloc (.cells #[Y none 0 0,Y none 0 0,Y none 0 0,Y none 0 0,O J 0,Y none 0 0] 28)).setCells w.heap.size 0 [v0,v1,v2,v3,v4,v5]).heap[w.heap.size]?=some (.cells #[v0,v1,v2,v3,v4,v5] 28 (0,0)) :=
 have h:=heap_alloc_new w (.cells #[Y none 0 0,Y none 0 0,Y none 0 0,Y none 0 0,O J 0,Y none 0 0] 28)
 ⟨Az h (by simp),Aw (A7 w _) (Nat.le_refl _),Bi h rfl⟩
structure Dh(w V:Wq)(W:Wd)(x:Pk)(v0 v1 v2 v3 v4 v5:Value):Prop where
 b:Below w.heap.size w V
 bx:V.heap[w.heap.size]?=some (.cells #[v0,v1,v2,v3,v4,v5] 28 (0,0))
 by_:V.heap[w.heap.size+1]?=some (.cells #[O J x.task,.bool x.step,.bool x.tick,O J x.c.kind,O J x.c.a,O J x.c.b,O J x.c.time,O J x.c.bk,O J x.c.slot] 34 (0,0))
 a:D8 0 V (.agg #[v0,v1,v2,v3,v4,v5]) W
theorem Dh.go{w V V':Wq}{W:Wd}{x:Pk}{v0 v1 v2 v3 v4 v5:Value}(h:Dh w V W x v0 v1 v2 v3 v4 v5)(hb:Below V.heap.size V V'):Dh w V' W x v0 v1 v2 v3 v4 v5 :=
 ⟨h.b.trans (hb.mono h.b.size),(hb.block _ (lt_of_block h.bx)).trans h.bx,(hb.block _ (lt_of_block h.by_)).trans h.by_,h.a.below hb⟩
structure Dv(V:Wq)(B:Nat)(W:Wd)(v0 v1 v2 v3 v4 v5:Value):Prop where
 bx:V.heap[B]?=some (.cells #[v0,v1,v2,v3,v4,v5] 28 (0,0))
 a:D8 0 V (.agg #[v0,v1,v2,v3,v4,v5]) W
theorem Dv.go{V V':Wq}{B:Nat}{W:Wd}{v0 v1 v2 v3 v4 v5:Value}(h:Dv V B W v0 v1 v2 v3 v4 v5)(hb:Below V.heap.size V V'):Dv V' B W v0 v1 v2 v3 v4 v5 :=
 ⟨(hb.block _ (lt_of_block h.bx)).trans h.bx,h.a.below hb⟩
theorem a0j{lo:Nat}{V:Wq}{v:Value}{W:Wd}(h:D8 lo V v W):∃ v0 v1 v2 v3 v4 v5,v=.agg #[v0,v1,v2,v3,v4,v5]/\(#[v0,v1,v2,v3,v4,v5].all (·.oneCell'))=true:=by
 obtain⟨aS,aH,aF,aL,cS,cH,cF,cL,aT,cT,l,rfl,-⟩:=h
 exact⟨_,_,_,_,_,_,rfl,by kernel_rfl⟩
theorem b0s{lo:Nat}{V:Wq}{v:Value}{W:Wd}(x:Pk)(h:D8 lo V v W):Calls Pg 15 #[v,.agg #[O J x.task,.bool x.step,.bool x.tick,O J x.c.kind,O J x.c.a,O J x.c.b,O J x.c.time,O J x.c.bk,O J x.c.slot]] V (DoP V W x):=by
 obtain⟨aS,aH,aF,aL,cS,cH,cF,cL,aT,cT,l,rfl,-⟩:=id h
 exact b3e h
theorem b0k{W:Wd}(x:Pk)(many buckets tasks:Int)(aS aH aF aL:Option Addr)(cS cH cF cL:Nat)(aT:Option Addr)(cT:Nat)(w:Wq)(hv:D8 0 w (.agg #[Y aS W.m.slots.length cS,Y aH W.m.heads.length cH,Y aF W.m.free.length cF,Y aL W.m.locks.length cL,O J W.m.now,Y aT W.ts.length cT]) W) :
  Calls Pg 3 #[.agg #[Y aS W.m.slots.length cS,Y aH W.m.heads.length cH,Y aF W.m.free.length cF,Y aL W.m.locks.length cL,O J W.m.now,Y aT W.ts.length cT],.agg #[O J x.task,.bool x.step,.bool x.tick,O J x.c.kind,O J x.c.a,O J x.c.b,O J x.c.time,O J x.c.bk,O J x.c.slot],O J many,O J buckets,O J tasks] w fun e w'=>e=.returned (.bool true)/\Below w.heap.size w w':=by
 have HO:Hid (∀ V,D8 0 V (.agg #[Y aS W.m.slots.length cS,Y aH W.m.heads.length cH,Y aF W.m.free.length cF,Y aL W.m.locks.length cL,O J W.m.now,Y aT W.ts.length cT]) W->Calls Pg 14 #[.agg #[Y aS W.m.slots.length cS,Y aH W.m.heads.length cH,Y aF W.m.free.length cF,Y aL W.m.locks.length cL,O J W.m.now,Y aT W.ts.length cT]] V fun e w'=>∃ v,e=.returned v/\D8 V.heap.size w' v W/\Below V.heap.size V w'):=fun V h=>a8l h
 have HCk:Hid (∀ V,D8 0 V (.agg #[Y aS W.m.slots.length cS,Y aH W.m.heads.length cH,Y aF W.m.free.length cF,Y aL W.m.locks.length cL,O J W.m.now,Y aT W.ts.length cT]) W->Calls Pg 17 #[.agg #[Y aS W.m.slots.length cS,Y aH W.m.heads.length cH,Y aF W.m.free.length cF,Y aL W.m.locks.length cL,O J W.m.now,Y aT W.ts.length cT]] V fun e w'=>e=.returned (O J (wE W))/\Below V.heap.size V w'):=fun V h=>by
  obtain⟨lt,A,hi,hts,hT,hTh⟩:=h.parts
  have h:=Zp W.m lt aS aH aF aL cS cH cF cL aT cT V A hT
  rw[<- hts,show lt.length=W.ts.length by rw[hts,List.length_map]] at h
  exact h
 have HCw:Hid (∀ V,D8 0 V (.agg #[Y aS W.m.slots.length cS,Y aH W.m.heads.length cH,Y aF W.m.free.length cF,Y aL W.m.locks.length cL,O J W.m.now,Y aT W.ts.length cT]) W->Calls Pg 19 #[.agg #[Y aS W.m.slots.length cS,Y aH W.m.heads.length cH,Y aF W.m.free.length cF,Y aL W.m.locks.length cL,O J W.m.now,Y aT W.ts.length cT]] V fun e w'=>e=.returned (O J (wE W))/\Below V.heap.size V w'):=fun V h=>by
  obtain⟨lt,A,hi,hts,hT,hTh⟩:=h.parts
  have h:=Ph W.m lt aS aH aF aL cS cH cF cL aT cT V A hT
  rw[<- hts,show lt.length=W.ts.length by rw[hts,List.length_map]] at h
  exact h
 have HPk:Hid (wE W=0->∀ V,D8 0 V (.agg #[Y aS W.m.slots.length cS,Y aH W.m.heads.length cH,Y aF W.m.free.length cF,Y aL W.m.locks.length cL,O J W.m.now,Y aT W.ts.length cT]) W->Calls Pg 22 #[.agg #[Y aS W.m.slots.length cS,Y aH W.m.heads.length cH,Y aF W.m.free.length cF,Y aL W.m.locks.length cL,O J W.m.now,Y aT W.ts.length cT],.agg #[O J x.task,.bool x.step,.bool x.tick,O J x.c.kind,O J x.c.a,O J x.c.b,O J x.c.time,O J x.c.bk,O J x.c.slot]] V (Iw V W x)):=fun h V hV=>a1k x aS aH aF aL cS cH cF cL aT cT V hV h
 obtain⟨v0,hv0⟩:∃ v,v=Value.slice aS W.m.slots.length cS:=⟨_,rfl⟩
 obtain⟨v1,hv1⟩:∃ v,v=Value.slice aH W.m.heads.length cH:=⟨_,rfl⟩
 obtain⟨v2,hv2⟩:∃ v,v=Value.slice aF W.m.free.length cF:=⟨_,rfl⟩
 obtain⟨v3,hv3⟩:∃ v,v=Value.slice aL W.m.locks.length cL:=⟨_,rfl⟩
 obtain⟨v4,hv4⟩:∃ v,v=Value.int .i64 W.m.now:=⟨_,rfl⟩
 obtain⟨v5,hv5⟩:∃ v,v=Value.slice aT W.ts.length cT:=⟨_,rfl⟩
 rw[<- hv0,<- hv1,<- hv2,<- hv3,<- hv4,<- hv5] at hv HO HCk HCw HPk ⊢
 have one:(#[v0,v1,v2,v3,v4,v5].all (·.oneCell'))=true:=by rw[hv0,hv1,hv2,hv3,hv4,hv5];kernel_rfl
 clear hv0 hv1 hv2 hv3 hv4 hv5
 obtain⟨ox,hox⟩:∃ o:Obj,o=.cells #[v0,v1,v2,v3,v4,v5] 28:=⟨_,rfl⟩
 obtain⟨oy,hoy⟩:∃ o:Obj,o=.cells #[O J x.task,.bool x.step,.bool x.tick,O J x.c.kind,O J x.c.a,O J x.c.b,O J x.c.time,O J x.c.bk,O J x.c.slot] 34:=⟨_,rfl⟩
 have H0:Hid (Dh w ((w.alloc ox).alloc oy) W x v0 v1 v2 v3 v4 v5):=by
  have b0:=below_alloc2 w ox oy
  refine⟨b0,?_,?_,hv.below b0⟩
  ·rw[Below.heap_alloc _ _ _ (by simp),heap_alloc_new,hox]
  ·have:=heap_alloc_new (w.alloc ox) oy
   rw[show (w.alloc ox).heap.size=w.heap.size+1 by simp] at this
   rw[this,hoy]
 have l5:Hid (((w.alloc ox).alloc oy).rangeAt w.heap.size 0 [v0,v1,v2,v3,v4,v5]):=Au H0.out.bx rfl
 obtain⟨W0,hW0⟩:∃ W0,W0=(w.alloc ox).alloc oy:=⟨_,rfl⟩
 rw[<- hW0] at H0 l5
 subst hox hoy
 have HW0:Hid (W0=(w.alloc (.cells #[v0,v1,v2,v3,v4,v5] 28)).alloc (.cells #[O J x.task,.bool x.step,.bool x.tick,O J x.c.kind,O J x.c.a,O J x.c.b,O J x.c.time,O J x.c.bk,O J x.c.slot] 34)):=hW0
 clear hW0 hv
 go_enter Tryz.func3,Tryz.ntmps3
 go_wp2_with (first|(rw[<- HW0.out];clear HW0)|(have h9:=l5.out;refine Ha rfl (.tmp 5) rfl rfl h9 ?_;clear h9 l5))
 refine(HO.out W0 H0.out.a).mono ?_
 rintro e w1 ⟨v,rfl,ho1,hb1⟩
 obtain⟨o0,o1,o2,o3,o4,o5,rfl,one1⟩:=a0j ho1
 obtain⟨t1,bb1,bx1⟩:=a6w w1 o0 o1 o2 o3 o4 o5
 have H1:=(H0.out.go hb1).go bb1
 have O1:Dv _ w1.heap.size W o0 o1 o2 o3 o4 o5:=⟨bx1,(ho1.mono (Nat.zero_le _)).below bb1⟩
 have HH1:Hid _:=H1
 have HO1:Hid _:=O1
 have l11:Hid _:=Au (o:=0) (vs:=[o0,o1,o2,o3,o4,o5]) O1.bx rfl
 have l6:Hid _:=Au (o:=0) (vs:=[O J x.task,.bool x.step,.bool x.tick,O J x.c.kind,O J x.c.a,O J x.c.b,O J x.c.time,O J x.c.bk,O J x.c.slot]) H1.by_ rfl
 clear H0 HO ho1 hb1 bb1 bx1 H1 O1
 go_wp2_with (first|(refine Gz rfl (.tmp 11) (.tmp 20) rfl rfl rfl t1.out one1 ?_;clear t1;generalize (w1.alloc _).setCells w1.heap.size 0 _=V1 at *;generalize w1.heap.size=B1 at *)|((fail_if_success (have:=t1.out));have h9:=l11.out;refine Ha rfl (.tmp 11) rfl rfl h9 ?_;clear h9 l11)|((fail_if_success (have:=l11.out));have h9:=l6.out;refine Wh rfl (.tmp 6) rfl rfl h9 ?_;clear h9 l6))
 refine(b0s x HO1.out.a).mono ?_
 rintro e w2 ⟨v,rfl,hu,hb2⟩
 obtain⟨dE,hdE⟩:∃ dE,dE=DoE W x:=⟨_,rfl⟩
 have HdE:Hid (dE=DoE W x):=hdE
 rw[<- hdE] at hu ⊢
 clear hdE
 obtain⟨u0,u1,u2,u3,u4,u5,rfl,one2⟩:=a0j hu
 obtain⟨t2,bb2,bx2⟩:=a6w w2 u0 u1 u2 u3 u4 u5
 have HH2:Hid _:=(HH1.out.go hb2).go bb2
 have HO2:Hid _:=(HO1.out.go hb2).go bb2
 have HU2:Hid (Dv _ w2.heap.size (if dE=0 then doW W x else w0W) u0 u1 u2 u3 u4 u5):=⟨bx2,(hu.mono (Nat.zero_le _)).below bb2⟩
 clear HH1 HO1 hu hb2 bb2 bx2 one1
 go_wp2_with (refine Gz rfl (.tmp 12) (.tmp 25) rfl rfl rfl t2.out one2 ?_;clear t2;generalize (w2.alloc _).setCells w2.heap.size 0 _=V2 at *;generalize w2.heap.size=B2 at *)
 refine(Zk many buckets tasks V2).mono ?_
 rintro e w3 ⟨v,rfl,hn,hb3⟩
 obtain⟨nE,hnE⟩:∃ nE,nE=Nj many buckets tasks:=⟨_,rfl⟩
 have HnE:Hid (nE=Nj many buckets tasks):=hnE
 rw[<- hnE] at hn ⊢
 clear hnE
 obtain⟨n0,n1,n2,n3,n4,n5,rfl,one3⟩:=a0j hn
 obtain⟨t3,bb3,bx3⟩:=a6w w3 n0 n1 n2 n3 n4 n5
 have HH3:Hid _:=(HH2.out.go hb3).go bb3
 have HO3:Hid _:=(HO2.out.go hb3).go bb3
 have HU3:Hid _:=(HU2.out.go hb3).go bb3
 have HN3:Hid (Dv _ w3.heap.size (if nE=0 then Px many.toNat buckets.toNat tasks.toNat else w0W) n0 n1 n2 n3 n4 n5):=⟨bx3,(hn.mono (Nat.zero_le _)).below bb3⟩
 have l5:Hid _:=Au (o:=0) (vs:=[v0,v1,v2,v3,v4,v5]) HH3.out.bx rfl
 clear HH2 HO2 HU2 hn hb3 bb3 bx3 one2
 go_wp2_with (first|(refine Gz rfl (.tmp 14) (.tmp 32) rfl rfl rfl t3.out one3 ?_;clear t3;generalize (w3.alloc _).setCells w3.heap.size 0 _=V3 at *;generalize w3.heap.size=B3 at *)|((fail_if_success (have:=t3.out));have h9:=l5.out;refine Ha rfl (.tmp 5) rfl rfl h9 ?_;clear h9 l5))
 refine(HCk.out V3 HH3.out.a).mono ?_
 rintro e w4 ⟨rfl,hb4⟩
 have HH4:Hid _:=HH3.out.go hb4
 have HO4:Hid _:=HO3.out.go hb4
 have HU4:Hid _:=HU3.out.go hb4
 have HN4:Hid _:=HN3.out.go hb4
 clear HH3 HO3 HU3 HN3 hb4 one3 HCk
 go_wp2_with fail
 refine(a1m w4).mono ?_
 rintro e w5 ⟨rfl,hb5⟩
 have HH5:Hid _:=HH4.out.go hb5
 have HO5:Hid _:=HO4.out.go hb5
 have HU5:Hid _:=HU4.out.go hb5
 have HN5:Hid _:=HN4.out.go hb5
 clear HH4 HO4 HU4 HN4 hb5
 obtain⟨p0,p1,p2,p3,p4,p5,ps⟩:=Bc HH5.out.bx
 go_wp2_with fail
 refine(HCw.out w5 HH5.out.a).mono ?_
 rintro e w6 ⟨rfl,hb6⟩
 have HH6:Hid _:=HH5.out.go hb6
 have HO6:Hid _:=HO5.out.go hb6
 have HU6:Hid _:=HU5.out.go hb6
 have HN6:Hid _:=HN5.out.go hb6
 clear HH5 HO5 HU5 HN5 hb6 p0 p1 p2 p3 p4 p5 ps HCw
 obtain⟨p0,p1,p2,p3,p4,p5,ps⟩:=Bc HH6.out.bx
 obtain⟨r0,r1,r2,r3,r4,r5,rs⟩:=Bc HO6.out.bx
 have HBad:Hid (wE W=wE W):=rfl
 obtain⟨bad,hbad⟩:∃ bad,bad=wE W:=⟨_,rfl⟩
 have HBd:Hid (bad=wE W):=hbad
 rw[<- hbad]
 clear hbad HBad
 have hbb:(bad != bad)=false:=by simp
 go_wp2_with fail
 refine(Gy w6 HO6.out.a HH6.out.a).mono ?_
 rintro e w7 ⟨rfl,hb7⟩
 have HH7:Hid _:=HH6.out.go hb7
 have HU7:Hid _:=HU6.out.go hb7
 have HN7:Hid _:=HN6.out.go hb7
 clear HH6 HO6 HU6 HN6 hb7 p0 p1 p2 p3 p4 p5 ps r0 r1 r2 r3 r4 r5 rs hbb
 have hsp:(many<0\/¬ many<0/\(many > 12\/¬ many > 12/\(buckets<1\/¬ buckets<1/\(buckets > 4\/¬ buckets > 4/\(tasks<1\/¬ tasks<1/\tasks > 5)))))/\nE=3\/(¬ many<0/\¬ many > 12/\¬ buckets<1/\¬ buckets > 4/\¬ tasks<1/\¬ tasks > 5/\nE=0):=by
  have h1:=HnE.out
  unfold Nj Wx at h1
  have a1:=Aj many 0 12
  have a2:=Aj buckets 1 4
  have a3:=Aj tasks 1 5
  by_cases hall:inB many 0 12=true/\inB buckets 1 4=true/\inB tasks 1 5=true
  ·rw[hall.1,hall.2.1,hall.2.2] at h1
   have b1:=a1.1 hall.1;have b2:=a2.1 hall.2.1;have b3:=a3.1 hall.2.2
   exact .inr ⟨by omega,by omega,by omega,by omega,by omega,by omega,h1⟩
  ·refine .inl ⟨?_,?_⟩
   ·refine Classical.byContradiction fun hc=>hall ⟨a1.2 (by omega),a2.2 (by omega),a3.2 (by omega)⟩
   ·rw[h1]
    cases c1:inB many 0 12 <;> cases c2:inB buckets 1 4 <;> cases c3:inB tasks 1 5 <;> simp[c1,c2,c3] at hall ⊢
 clear HnE
 rcases hsp with ⟨hsp,rfl⟩|⟨i1,i2,i3,i4,i5,i6,rfl⟩
 ·rw[if_neg (by decide)] at HN7
  have HN0:Hid (Dv w7 B3 w0W n0 n1 n2 n3 n4 n5):=HN7.out
  clear HN7
  obtain⟨r0,r1,r2,r3,r4,r5,rs⟩:=Bc HN0.out.bx
  rcases hsp with i1|⟨i1,i2|⟨i2,i3|⟨i3,i4|⟨i4,i5|⟨i5,i6⟩⟩⟩⟩⟩
  all_goals
   go_wp2_with fail
   refine(Gy w7 HN0.out.a (U5 0 w7)).mono ?_
   rintro e w8 ⟨rfl,hb8⟩
   have HH8:Hid _:=HH7.out.go hb8
   have HU8:Hid _:=HU7.out.go hb8
   clear HH7 HU7 HN0 hb8 r0 r1 r2 r3 r4 r5 rs
   by_cases hb0:bad=0
   ·have HdE0:Hid (dE=doE W x):=by show _=_;rw[HdE.out];unfold DoE;rw[<- HBd.out,if_neg (by simpa using hb0)]
    have HPk2:Hid _:=HPk.out (HBd.out.symm.trans hb0) w8 HH8.out.a
    have l5:Hid _:=Au (o:=0) (vs:=[v0,v1,v2,v3,v4,v5]) HH8.out.bx rfl
    have l6:Hid _:=Au (o:=0) (vs:=[O J x.task,.bool x.step,.bool x.tick,O J x.c.kind,O J x.c.a,O J x.c.b,O J x.c.time,O J x.c.bk,O J x.c.slot]) HH8.out.by_ rfl
    subst hb0
    clear HPk HdE HBd
    go_wp2_with (first|(have h9:=l5.out;refine Ha rfl (.tmp 5) rfl rfl h9 ?_;clear h9 l5)|(have h9:=l6.out;refine Wh rfl (.tmp 6) rfl rfl h9 ?_;clear h9 l6))
    refine Calls.mono HPk2.out ?_
    rintro e w9 ⟨v,rfl,hp,hb9⟩
    rw[<- HdE0.out] at hp ⊢
    obtain⟨k0,k1,k2,k3,k4,k5,rfl,one4⟩:=a0j hp
    obtain⟨t4,bb4,bx4⟩:=a6w w9 k0 k1 k2 k3 k4 k5
    have HH9:Hid _:=(HH8.out.go hb9).go bb4
    have HU9:Hid _:=(HU8.out.go hb9).go bb4
    have HK9:Hid (Dv _ w9.heap.size (if dE=0 then doW W x else w0W) k0 k1 k2 k3 k4 k5):=⟨bx4,(hp.mono (Nat.zero_le _)).below bb4⟩
    clear HH8 HU8 HPk2 HdE0 hp hb9 bb4 bx4
    obtain⟨p0,p1,p2,p3,p4,p5,ps⟩:=Bc HU9.out.bx
    obtain⟨r0,r1,r2,r3,r4,r5,rs⟩:=Bc HK9.out.bx
    have hdd:(dE==dE)=true:=by simp
    go_wp2_with (refine Gz rfl (.tmp 17) (.tmp 107) rfl rfl rfl t4.out one4 ?_;clear t4;generalize (w9.alloc _).setCells w9.heap.size 0 _=V9 at *;generalize w9.heap.size=B9 at *)
    refine(Gy V9 HU9.out.a HK9.out.a).mono ?_
    rintro e w10 ⟨rfl,hb10⟩
    have HB:Hid (Below w.heap.size w w10):=(HH9.out.go hb10).b
    clear HH9 HU9 HK9 hb10 p0 p1 p2 p3 p4 p5 ps r0 r1 r2 r3 r4 r5 rs
    go_wp2
    go_ret
    exact⟨rfl,HB.out⟩
   ·have HdE0:dE=bad:=by rw[HdE.out];unfold DoE;rw[<- HBd.out,if_pos hb0]
    have hb1:(bad != 0)=true:=by simpa using hb0
    have hdd:(bad==bad)=true:=by simp
    rw[if_neg (by rw[HdE0];exact hb0)] at HU8
    have HU0:Hid (Dv w8 B2 w0W u0 u1 u2 u3 u4 u5):=HU8.out
    subst HdE0
    clear HU8 HdE HBd HPk hb0
    obtain⟨p0,p1,p2,p3,p4,p5,ps⟩:=Bc HU0.out.bx
    go_wp2_with fail
    refine(Gy w8 HU0.out.a (U5 0 w8)).mono ?_
    rintro e w10 ⟨rfl,hb10⟩
    have HB:Hid (Below w.heap.size w w10):=(HH8.out.go hb10).b
    clear HH8 HU0 hb10 p0 p1 p2 p3 p4 p5 ps
    go_wp2
    go_ret
    exact⟨rfl,HB.out⟩
 ·obtain⟨m,rfl⟩:∃ m:Nat,many=m:=⟨many.toNat,by omega⟩
  obtain⟨k,rfl⟩:∃ k:Nat,buckets=k:=⟨buckets.toNat,by omega⟩
  obtain⟨n,rfl⟩:∃ n:Nat,tasks=n:=⟨tasks.toNat,by omega⟩
  rw[if_pos rfl] at HN7
  have HN0:Hid (Dv w7 B3 (Px m k n) n0 n1 n2 n3 n4 n5):=HN7.out
  clear HN7
  go_wp2_with fail
  refine b2d rfl rfl rfl rfl rfl rfl (by omega) (by omega) (by omega) (by omega) HN0.out.bx HN0.out.a fun y w8 hb8 h92=>?_
  simp only[mkA,dN,List.cons_append,List.nil_append,List.foldl_cons,List.foldl_nil,Act.put,List.setIfInBounds_toArray,List.set_cons_succ,List.set_cons_zero,h92]
  have HH8:Hid _:=HH7.out.go hb8
  have HU8:Hid _:=HU7.out.go hb8
  clear HH7 HU7 HN0 hb8 h92
  by_cases hb0:bad=0
  ·have HdE0:Hid (dE=doE W x):=by show _=_;rw[HdE.out];unfold DoE;rw[<- HBd.out,if_neg (by simpa using hb0)]
   have HPk2:Hid _:=HPk.out (HBd.out.symm.trans hb0) w8 HH8.out.a
   have l5:Hid _:=Au (o:=0) (vs:=[v0,v1,v2,v3,v4,v5]) HH8.out.bx rfl
   have l6:Hid _:=Au (o:=0) (vs:=[O J x.task,.bool x.step,.bool x.tick,O J x.c.kind,O J x.c.a,O J x.c.b,O J x.c.time,O J x.c.bk,O J x.c.slot]) HH8.out.by_ rfl
   subst hb0
   clear HPk HdE HBd
   go_wp2_with (first|(have h9:=l5.out;refine Ha rfl (.tmp 5) rfl rfl h9 ?_;clear h9 l5)|(have h9:=l6.out;refine Wh rfl (.tmp 6) rfl rfl h9 ?_;clear h9 l6))
   refine Calls.mono HPk2.out ?_
   rintro e w9 ⟨v,rfl,hp,hb9⟩
   rw[<- HdE0.out] at hp ⊢
   obtain⟨k0,k1,k2,k3,k4,k5,rfl,one4⟩:=a0j hp
   obtain⟨t4,bb4,bx4⟩:=a6w w9 k0 k1 k2 k3 k4 k5
   have HH9:Hid _:=(HH8.out.go hb9).go bb4
   have HU9:Hid _:=(HU8.out.go hb9).go bb4
   have HK9:Hid (Dv _ w9.heap.size (if dE=0 then doW W x else w0W) k0 k1 k2 k3 k4 k5):=⟨bx4,(hp.mono (Nat.zero_le _)).below bb4⟩
   clear HH8 HU8 HPk2 HdE0 hp hb9 bb4 bx4
   obtain⟨p0,p1,p2,p3,p4,p5,ps⟩:=Bc HU9.out.bx
   obtain⟨r0,r1,r2,r3,r4,r5,rs⟩:=Bc HK9.out.bx
   have hdd:(dE==dE)=true:=by simp
   go_wp2_with (refine Gz rfl (.tmp 17) (.tmp 107) rfl rfl rfl t4.out one4 ?_;clear t4;generalize (w9.alloc _).setCells w9.heap.size 0 _=V9 at *;generalize w9.heap.size=B9 at *)
   refine(Gy V9 HU9.out.a HK9.out.a).mono ?_
   rintro e w10 ⟨rfl,hb10⟩
   have HB:Hid (Below w.heap.size w w10):=(HH9.out.go hb10).b
   clear HH9 HU9 HK9 hb10 p0 p1 p2 p3 p4 p5 ps r0 r1 r2 r3 r4 r5 rs
   go_wp2
   go_ret
   exact⟨rfl,HB.out⟩
  ·have HdE0:dE=bad:=by rw[HdE.out];unfold DoE;rw[<- HBd.out,if_pos hb0]
   have hb1:(bad != 0)=true:=by simpa using hb0
   have hdd:(bad==bad)=true:=by simp
   rw[if_neg (by rw[HdE0];exact hb0)] at HU8
   have HU0:Hid (Dv w8 B2 w0W u0 u1 u2 u3 u4 u5):=HU8.out
   subst HdE0
   clear HU8 HdE HBd HPk hb0
   obtain⟨p0,p1,p2,p3,p4,p5,ps⟩:=Bc HU0.out.bx
   go_wp2_with fail
   refine(Gy w8 HU0.out.a (U5 0 w8)).mono ?_
   rintro e w10 ⟨rfl,hb10⟩
   have HB:Hid (Below w.heap.size w w10):=(HH8.out.go hb10).b
   clear HH8 HU0 hb10 p0 p1 p2 p3 p4 p5 ps
   go_wp2
   go_ret
   exact⟨rfl,HB.out⟩
end
end Go.Proofs.YthhgoenomehobaaGreat.mm
