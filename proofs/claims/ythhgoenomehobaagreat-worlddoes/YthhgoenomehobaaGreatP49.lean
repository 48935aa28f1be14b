/- Parts. -/
import Derived.Test.YthhgoenomehobaaGreatP47
namespace Go.Proofs.YthhgoenomehobaaGreat.mm
set_option maxRecDepth 100000
set_option linter.unusedVariables false
open Go.Value renaming int → O, slice → Y
open Go.IntKind renaming i64 → J
open Go.Proofs.Tryz renaming prog → Pg
open Go renaming undef → Uz, World → Wq
open Go.ChangeShapes Go.WideShapes Go.ChangeAt Go.RowKit Go.Joins Go.Deep Go.Maps
set_option maxHeartbeats 3200000
section
def b3s(s:String):Array Oper:=#[⟨some 102,.move (.tmp 7),113,s,#[],none⟩,⟨some 103,.move (.tmp 7),113,s,#[⟨7,.gcOnly .lateStores⟩],none⟩,⟨some 104,.fieldAddr 34 (.tmp 3) 3,0,s,#[],none⟩,⟨some 105,.load 32 (.tmp 104),32,s,#[⟨2,.data⟩],none⟩,⟨some 106,.build 47 #[(0,.tmp 105),(4,.const (O J (-1)))],47,s,#[⟨3,.data⟩],none⟩,⟨some 107,.nilCheck (.tmp 102),0,s,#[⟨0,.data⟩,⟨0,.phase⟩,⟨1,.textOnly .lateStores⟩,⟨2,.textOnly .lateStores⟩,⟨3,.textOnly .lateStores⟩,⟨4,.textOnly .lateStoresUnsure⟩],none⟩,⟨some 108,.fieldAddr 49 (.tmp 107) 0,0,s,#[⟨5,.data⟩,⟨0,.phase⟩,⟨1,.textOnly .lateStores⟩,⟨2,.textOnly .lateStores⟩,⟨3,.textOnly .lateStores⟩,⟨4,.textOnly .lateStoresUnsure⟩],none⟩,⟨none,.store 4 (.tmp 108) (.const (.bool true)),0,s,#[⟨6,.data⟩,⟨0,.phase⟩,⟨1,.textOnly .lateStores⟩,⟨2,.textOnly .lateStores⟩,⟨3,.textOnly .lateStores⟩,⟨4,.textOnly .lateStoresUnsure⟩],none⟩,⟨some 109,.nilCheck (.tmp 103),0,s,#[⟨1,.data⟩,⟨0,.phase⟩,⟨1,.phase⟩,⟨2,.phase⟩,⟨3,.phase⟩,⟨4,.phase⟩,⟨5,.phase⟩,⟨6,.phase⟩,⟨7,.phase⟩],none⟩,⟨some 110,.fieldAddr 49 (.tmp 109) 1,0,s,#[⟨8,.data⟩,⟨0,.phase⟩,⟨1,.phase⟩,⟨2,.phase⟩,⟨3,.phase⟩,⟨4,.phase⟩,⟨5,.phase⟩,⟨6,.phase⟩,⟨7,.phase⟩],none⟩,⟨none,.store 47 (.tmp 110) (.tmp 106),0,s,#[⟨9,.data⟩,⟨4,.data⟩,⟨7,.chain⟩,⟨0,.phase⟩,⟨1,.phase⟩,⟨2,.phase⟩,⟨3,.phase⟩,⟨4,.phase⟩,⟨5,.phase⟩,⟨6,.phase⟩,⟨7,.phase⟩],none⟩]
def dB:List Nat:=[102,103,104,105,106,107,108,109,110]
theorem a0u{op:Oper}{x:Operand}{a:Act}{V:Wq}{g o:Nat}{c:Cl}(ho:op.op=.load 32 x)(hx:a.eval x=.pointer (some ⟨g,o,none⟩))(h:V.rangeAt g o [O J c.kind,O J c.a,O J c.b,O J c.time,O J c.bk,O J c.slot]):(execOp a.eval op).run Pg V=.ok (.value (.agg #[O J c.kind,O J c.a,O J c.b,O J c.time,O J c.bk,O J c.slot])) V:=by
 unfold execOp
 simp only[ho,hx,Instr.loadAt,Instr.sureAddr,Sem.run_bind,Sem.run_pure,Result.andThen_ok,run_loadVar_mid V g o 32 [O J c.kind,O J c.a,O J c.b,O J c.time,O J c.bk,O J c.slot] _ h Tryz.underlying32 rfl (by kernel_rfl)]
theorem b1z{Q:Exit->Act->Wq->Prop}{A:Act}{W:Wq}{id:Nat}{st:String}{B g o:Nat}{c:Cl}{b0:Value}(hsz:A.tmps.size=263)(e3:A.eval (.tmp 3)=.pointer (some ⟨B+1,0,none⟩))(e7:A.eval (.tmp 7)=.pointer (some ⟨g,o,none⟩))
  (hr:W.rangeAt (B+1) 3 [O J c.kind,O J c.a,O J c.b,O J c.time,O J c.bk,O J c.slot]) (hc:W.cell? ⟨g,o,none⟩=some b0) (hz:W.frozen? ⟨g,o,none⟩=false) (ht:W.there g (o+1) 14) (hBg:B+1≠g)
  (fin:∀ x V,Below W.heap.size W V->Q .normal (mkA A dB x) ((V.setCell ⟨g,o,none⟩ (.bool true)).setCells g (o+1) ((Cm c).enc none 0))):(Code.region id (b3s st) true).wp Pg Q A W:=by
 have hBz:B+1<W.heap.size:=cell_lt (hr 0 _ rfl)
 have hgz:=cell_lt hc
 refine I5 (by kernel_rfl) [102,103,104,105,106,107,108,1000,109,110,1001] dB [7,10] [1,1,1,1,1,1,1,0,2,1,0]
  [.pointer (some ⟨g,o,none⟩),.pointer (some ⟨g,o,none⟩),.pointer (some ⟨B+1,3,none⟩),.agg #[O J c.kind,O J c.a,O J c.b,O J c.time,O J c.bk,O J c.slot],.agg #[O J c.kind,O J c.a,O J c.b,O J c.time,O J c.bk,O J c.slot,O J 0,O J 0,O J 0,O J (-1),O J 0,Y none 0 0,.bool false,O J 0],.pointer (some ⟨g,o,none⟩),.pointer (some ⟨g,o,none⟩),Uz,.pointer (some ⟨g,o,none⟩),.pointer (some ⟨g,o+1,none⟩),Uz]
  (fun p x V=>(p=0->Below W.heap.size W V)/\(p=1->∃ V0,Below W.heap.size W V0/\V=V0.setCell ⟨g,o,none⟩ (.bool true))/\(p=2->∃ V0,Below W.heap.size W V0/\V=(V0.setCell ⟨g,o,none⟩ (.bool true)).setCells g (o+1) ((Cm c).enc none 0)))
  (by kernel_rfl) (fun V h hs=>⟨fun _=>h,(fun h=>by cases h),(fun h=>by cases h)⟩) ?_ ?_ ?_ ?_
 ·rintro p x x' V h hp
  exact hp
 ·intro i hi hic p x V hp hΩ hd o' ho
  have hi:i<11:=hi
  have n8:i≠7/\i≠10:=⟨fun e=>hic (by simp[e]),fun e=>hic (by simp[e])⟩
  have E3:=Gt (A:=A) (D:=dB) x (k:=3) rfl e3
  have E7:=Gt (A:=A) (D:=dB) x (k:=7) rfl e7
  have ev:∀ k,(dB.contains k && decide (k<263))=true->(mkA A dB x).tmps[k]?.getD Uz=x k:=fun k h=>J7 x (by rw[hsz];exact h)
  have hr':i=3->V.rangeAt (B+1) 3 [O J c.kind,O J c.a,O J c.b,O J c.time,O J c.bk,O J c.slot]:=fun h=>by
   subst h
   have hp1:p=0\/p=1:=by
    have:p<=1:=hp
    omega
   rcases hp1 with rfl|rfl
   ·exact Dp hr (hΩ.1 rfl) hBz
   ·obtain⟨V0,hb,rfl⟩:=hΩ.2.1 rfl
    intro j v hj
    exact(World.cell?_of_block (a:=⟨B+1,3+j,none⟩) (Below.heap_setCell _ _ _ _ (by dsimp only;exact hBg))).trans (Dp hr hb hBz j v hj)
  generalize mkA A dB x=A' at *
  have:i=0\/i=1\/i=2\/i=3\/i=4\/i=5\/i=6\/i=8\/i=9:=by omega
  rcases this with rfl|rfl|rfl|rfl|rfl|rfl|rfl|rfl|rfl
  all_goals
   simp only[b3s,List.getElem?_toArray,List.getElem?_cons_zero,List.getElem?_cons_succ,Option.some.injEq] at ho
   subst ho
  ·simp[execOp,go_sem,E7]
  ·simp[execOp,go_sem,E7]
  ·simp[execOp,go_sem,E3]
  ·have:=(ev 104 rfl).trans (hd 2 (by decide) (by show 2<11;decide) (by kernel_rfl))
   exact a0u rfl (by rw[Act.eval,Array.getD_eq_getD_getElem?];exact this) (hr' rfl)
  ·have:=(ev 105 rfl).trans (hd 3 (by decide) (by show 3<11;decide) (by kernel_rfl))
   simp[execOp,go_sem,this]
  ·have:=(ev 102 rfl).trans (hd 0 (by decide) (by show 0<11;decide) (by kernel_rfl))
   simp[execOp,go_sem,this]
  ·have:=(ev 107 rfl).trans (hd 5 (by decide) (by show 5<11;decide) (by kernel_rfl))
   simp[execOp,go_sem,this]
  ·have:=(ev 103 rfl).trans (hd 1 (by decide) (by show 1<11;decide) (by kernel_rfl))
   simp[execOp,go_sem,this]
  ·have:=(ev 109 rfl).trans (hd 8 (by decide) (by show 8<11;decide) (by kernel_rfl))
   simp[execOp,go_sem,this]
 ·intro q hq x V hΩ hd o' ho
  have hq:q<2:=hq
  have ev:∀ k,(dB.contains k && decide (k<263))=true->(mkA A dB x).tmps[k]?.getD Uz=x k:=fun k h=>J7 x (by rw[hsz];exact h)
  obtain rfl|rfl:q=0\/q=1:=by omega
  all_goals
   simp only[b3s,List.getD_cons_zero,List.getD_cons_succ,List.getElem?_toArray,List.getElem?_cons_zero,List.getElem?_cons_succ,Option.some.injEq] at ho
   subst ho
  ·have h6:=(ev 108 rfl).trans (hd 6 (by decide) (by show 6<11;decide) (by kernel_rfl))
   have hb:=hΩ.1 rfl
   have c0:=((Bv hb).1 _ _ hgz).trans hc
   have f0:=(hb.frozen (p:=⟨g,o,none⟩) hgz).trans hz
   generalize mkA A dB x=A' at *
   exact wp_skip (w':=V.setCell ⟨g,o,none⟩ (.bool true)) (by simp[execOp,go_sem,h6,c0,f0]) ⟨_,rfl,(fun h=>by cases h),fun _=>⟨V,hb,rfl⟩,(fun h=>by cases h)⟩
  ·have h9:=(ev 110 rfl).trans (hd 9 (by decide) (by show 9<11;decide) (by kernel_rfl))
   have h4:=(ev 106 rfl).trans (hd 4 (by decide) (by show 4<11;decide) (by kernel_rfl))
   generalize mkA A dB x=A' at *
   refine Exists.elim (hΩ.2.1 rfl) fun V0 hV=>?_
   have ht':V.there g (o+1) 14:=by
    rw[hV.2]
    refine World.there_setCells (w:=V0) (fun j hj=>?_) g o [.bool true]
    rw[(Bv hV.1).1 _ _ hgz,hV.1.frozen hgz]
    exact ht j hj
   refine wp_store_mid 47 (.tmp 110) (.tmp 106) rfl g (o+1) #[O J (((Cm c)).c).kind,O J (((Cm c)).c).a,O J (((Cm c)).c).b,O J (((Cm c)).c).time,O J (((Cm c)).c).bk,O J (((Cm c)).c).slot,O J ((Cm c)).pl,O J ((Cm c)).cur,O J ((Cm c)).prev,O J ((Cm c)).slot,O J ((Cm c)).n,Y none ((Cm c)).keys.length 0,.bool ((Cm c)).done,O J ((Cm c)).e] (by rw[Act.eval,Array.getD_eq_getD_getElem?];exact h9) (by rw[Act.eval,Array.getD_eq_getD_getElem?];exact h4) ht' (by kernel_rfl) (by kernel_rfl) ⟨Uz,rfl,(fun h=>by cases h),(fun h=>by cases h),fun _=>⟨V0,hV.1,?_⟩⟩
   rw[hV.2]
   rfl
 ·rintro x V hΩ -
  obtain⟨V0,h1,rfl⟩:=hΩ.2.2 rfl
  exact fin x V0 h1
end
section
section
variable {w W3:Wq} {n0 lo2:Nat} {aS aH aF aL:Option Addr} {cS cH cF cL g cT n:Nat} {M:Mm} {l:List (Tk × TkV)} {x:Pk} {B lo:Nat}
theorem PkH.below{V:Wq}(h:PkH w W3 n0 lo2 aS aH aF aL cS cH cF cL g cT n M l x)(hb:Below W3.heap.size W3 V):PkH w V n0 lo2 aS aH aF aL cS cH cF cL g cT n M l x :=
 ⟨h.wm.below hb,h.ok,h.we,(hb.block _ (lt_of_block h.bx)).trans h.bx,(hb.block _ (lt_of_block h.bz)).trans h.bz,h.big,h.bel.trans (hb.mono h.bel.size)⟩
theorem b4a{V:Wq}(h:WM V n0 B lo lo2 aS aH aF aL cS cH cF cL M g cT n l){i:Nat}(hi:i<l.length)(c:Cl) :
  WP n0 B ⟨M,(l.map (·.1)).set i ⟨true,Cm c,l[i].1.held⟩⟩ V ((V.setCell ⟨g,i*16,none⟩ (.bool true)).setCells g (i*16+1) ((Cm c).enc none 0)):=by
 have h1:=h.t.setB hi true
 have hi':i<(l.set i (⟨true,l[i].1.f,l[i].1.held⟩,l[i].2)).length:=by rw[List.length_set];exact hi
 have h2:=h1.a2c hi' (Cm c) none 0 (Ky _) (fun _ h=>by cases h) (fun h=>absurd rfl h) (fun h=>absurd rfl h)
 rw[List.set_set,List.getElem_set_self] at h2
 have hgz:=h.t.glo
 have h3:=h.hlo2
 have hblk:∀ k,k≠g->((V.setCell ⟨g,i*16,none⟩ (.bool true)).setCells g (i*16+1) ((Cm c).enc none 0)).heap[k]?=V.heap[k]?:=fun k hk=>(Ad hk _ _ _).trans (Below.heap_setCell _ _ _ _ (by dsimp only;exact hk))
 have hs:V.heap.size=((V.setCell ⟨g,i*16,none⟩ (.bool true)).setCells g (i*16+1) ((Cm c).enc none 0)).heap.size:=by rw[setCells_size,World.size_setCell]
 refine U6 (w:=V) (w':=(V.setCell ⟨g,i*16,none⟩ (.bool true)).setCells g (i*16+1) ((Cm c).enc none 0)) (Z:=Ac B aS aH aF aL) ⟨aS,aH,aF,aL,cS,cH,cF,cL,h.m.same (w':=(V.setCell ⟨g,i*16,none⟩ (.bool true)).setCells g (i*16+1) ((Cm c).enc none 0)) (Nat.le_of_eq hs) (fun k _ hk=>hblk k fun e=>h.ap k hk (by rw[e];exact .inl rfl)),fun _ h=>h⟩ h2 (by rw[List.length_set];exact h.len) h.hlo h.hlo2 ⟨(Ap _ _ _).1,(Ap _ _ _).2.1,(Ap _ _ _).2.2,Nat.le_of_eq hs,fun k hk _=>hblk k (by omega)⟩ (by rw[List.map_set])
theorem a8n{i:Nat}(h:PkH w W3 n0 lo2 aS aH aF aL cS cH cF cL g cT n M l x)(ht:x.tick=false)(hx:x.task=i)(hi:i<l.length)(hs:x.step=false)(hl5:l[i].1.held.length<=100){E:Int}(hEb:E=Yl M l[i].1 x.c)(hE:Hid (doE ⟨M,l.map (·.1)⟩ x=E))(hW:Hid (doW ⟨M,l.map (·.1)⟩ x=⟨M,(l.map (·.1)).set i ⟨true,Cm x.c,l[i].1.held⟩⟩))(v0 v1 v11 v12:Value) :
  Code.wp Pg (H9 (H9 (H9 (Tryz.f22.body.getD .skip)))) (bodyPost Pg Tryz.f22 (Iw w ⟨M,l.map (·.1)⟩ x)) (Np w.heap.size v0 v1 v11 v12) W3:=by
 have hpi:=List.getElem_mem hi
 have hns:=h.ok.ns
 have hnh:=h.ok.nh
 obtain⟨C0,hC0⟩:∃ C0,C0=D5 M.slots.length M.heads.length x.c:=⟨_,rfl⟩
 have HC:Hid (Calls Pg 68 #[.agg #[Y aS M.slots.length cS,Y aH M.heads.length cH,Y aF M.free.length cF,Y aL M.locks.length cL,O J M.now],.agg #[O J x.c.kind,O J x.c.a,O J x.c.b,O J x.c.time,O J x.c.bk,O J x.c.slot]] W3 fun e w'=>e=.returned (O J C0)/\Below W3.heap.size W3 w'):=Xo hC0 aS aH aF aL _ _ cS cH cF cL M.now W3 (by omega) (by omega)
 have HEb:Hid (E=if l[i].1.busy then 8 else if C0≠0 then C0 else if x.c.kind=1/\100<=l[i].1.held.length then 7 else if x.c.kind=6/\hasB l[i].1.held x.c.slot=false then 6 else 0):=by rw[hC0];exact hEb
 obtain⟨x0,x1,x2,x3,x4,x5,x6,x7,x8,xs⟩:=P6 h.bx
 obtain⟨q0,q1,q2,q3,q4,q5,qs⟩:=Bc h.wm.m.box
 have HP:Hid (PkH w W3 n0 lo2 aS aH aF aL cS cH cF cL g cT n M l x):=h
 rw[ht] at x2
 rw[hs] at x1
 rw[hx] at x0
 have hn:(i:Int)<(n:Int):=by have:=h.wm.len;omega
 have hn5:n<=5:=by rw[<- h.wm.len];exact h.wm.t.few
 clear h ht hs hx hC0 hEb hns hnh
 unfold Np
 conv=>arg 2;whnf
 go_wp2_with fail
 refine HC.out.mono ?_
 rintro e W4 ⟨rfl,hb4⟩
 have HP4:Hid (PkH w W4 n0 lo2 aS aH aF aL cS cH cF cL g cT n M l x):=HP.out.below hb4
 clear HP HC hb4 x0 x1 x2 x3 x4 x5 x6 x7 x8 q0 q1 q2 q3 q4 q5 xs qs
 obtain⟨x0,x1,x2,x3,x4,x5,x6,x7,x8,xs⟩:=P6 HP4.out.bx
 have d0:W4.cell? ⟨g,i*16,none⟩=some (.bool l[i].1.busy):=(HP4.out.wm.t.busy hi).1
 have d15:W4.cell? ⟨g,i*16+15,none⟩=some (Y l[i].2.aH l[i].1.held.length l[i].2.cH):=(HP4.out.wm.t.Zb hi).1
 have HR:Hid (Cj W4 l[i].2.aH l[i].2.cH l[i].1.held):=HP4.out.wm.t.a0d.held _ hpi
 have HCt:Hid (∀ k,Calls Pg 33 #[Y l[i].2.aH l[i].1.held.length l[i].2.cH,O J x.c.slot] (W4.drewN k) fun e w'=>e=.returned (.bool (hasB l[i].1.held x.c.slot))/\w'=W4.drewN k):=fun k=>by
  have r:=a7u HR.out k
  have h:=Hg l[i].2.aH l[i].1.held.length l[i].2.cH l[i].1.held x.c.slot (W4.drewN k) (Nat.le_refl _) (by have:=r.max;omega) r.at_
  refine h.mono ?_
  rintro e w' ⟨rfl,rfl⟩
  exact⟨by rw[List.take_length],rfl⟩
 obtain⟨kd,hkd⟩:∃ kd,kd=x.c.kind:=⟨_,rfl⟩
 obtain⟨hb,hhb⟩:∃ hb,hb=hasB l[i].1.held x.c.slot:=⟨_,rfl⟩
 obtain⟨bz,hbz⟩:∃ bz,bz=l[i].1.busy:=⟨_,rfl⟩
 obtain⟨len,hlen⟩:∃ len,len=l[i].1.held.length:=⟨_,rfl⟩
 have hm15:=HR.out.max
 rw[<- hkd] at x3
 rw[<- hlen] at d15 HCt hm15 hl5
 rw[<- hbz] at d0
 rw[<- hhb] at HCt
 rw[<- hbz,<- hkd,<- hlen,<- hhb] at HEb
 have Hkd:Hid (kd=x.c.kind):=hkd
 clear hkd hhb hbz hlen HR
 have hcase:(bz=true/\E=8)\/(bz=false/\C0≠0/\E=C0)\/(bz=false/\C0=0/\kd=1/\len=100/\E=7)\/(bz=false/\C0=0/\kd=6/\hb=false/\E=6)\/(bz=false/\C0=0/\(kd=1->len≠100)/\(kd=6->hb=true)/\E=0):=by
  have:=HEb.out
  cases bz
  ·refine .inr ?_
   by_cases h1:C0=0
   ·refine .inr ?_
    subst h1
    simp only[Bool.false_eq_true,if_false,ne_eq,not_true_eq_false] at this
    by_cases h2:kd=1/\100<=len
    ·rw[if_pos h2] at this
     exact .inl ⟨rfl,rfl,h2.1,by omega,this⟩
    ·rw[if_neg h2] at this
     refine .inr ?_
     by_cases h3:kd=6/\hb=false
     ·rw[if_pos h3] at this
      exact .inl ⟨rfl,rfl,h3.1,h3.2,this⟩
     ·rw[if_neg h3] at this
      exact .inr ⟨rfl,rfl,fun e h=>h2 ⟨e,by omega⟩,fun e=>by cases hb;exact absurd ⟨e,rfl⟩ h3;rfl,this⟩
   ·rw[if_neg (by simp),if_pos h1] at this
    exact .inl ⟨rfl,h1,this⟩
  ·exact .inl ⟨rfl,by simpa using this⟩
 clear HEb
 have hd15:¬ (kd=1/\kd=6):=by omega
 rcases hcase with ⟨rfl,rfl⟩|⟨rfl,hC,rfl⟩|⟨rfl,rfl,rfl,rfl,rfl⟩|⟨rfl,rfl,rfl,rfl,rfl⟩|⟨rfl,rfl,hk1,hk6,rfl⟩
 rotate_left 4
 ·have hsub:(kd=1/\((len:Int)==100)=false)\/(kd=6/\hb=true)\/((kd==1)=false/\(kd==6)=false):=by
   by_cases h1:kd=1
   ·exact .inl ⟨h1,by have:=hk1 h1;simp;omega⟩
   ·by_cases h6:kd=6
    ·exact .inr (.inl ⟨h6,hk6 h6⟩)
    ·exact .inr (.inr ⟨by simpa using h1,by simpa using h6⟩)
  clear hk1 hk6 hd15
  rcases hsub with ⟨rfl,h100⟩|⟨rfl,rfl⟩|⟨h1,h6⟩
  all_goals
   go_wp2_with fail
   go_quiet (first|(go_at_call 33;exact Calls.quiet_of_same (HCt.out _)))
   have HPx:Hid (PkH w (W4.drewN nq) n0 lo2 aS aH aF aL cS cH cF cL g cT n M l x):=HP4.out.below (below_drewN (Below.refl _ _) nq)
   clear HCt HP4 x0 x1 x2 x3 x4 x5 x6 x7 x8 d0 d15
   generalize W4.drewN nq=W5 at *
   go_wp2_with fail
   refine b1z (c:=x.c) rfl rfl rfl (Au HPx.out.bx rfl) (HPx.out.wm.t.busy hi).1 (HPx.out.wm.t.busy hi).2 (HPx.out.wm.t.there hi (by decide)) (by have h1:=HPx.out.wm.t.glo;have h2:=HPx.out.wm.hlo2;have h3:=HPx.out.big;omega) fun y V hbV=>?_
   have HV:=HPx.out.below hbV
   obtain⟨c0,c1,c2,c3,c4,c5,r6,t6,o6,b6,hQ⟩:=N9 (b4a HV.wm hi x.c) HV.bz HV.big HV.bel hE.out hW.out.symm
   have R6:Hid _:=r6
   have T6:Hid _:=t6
   have HQ:Hid _:=hQ
   obtain⟨z0,z1,z2,z3,z4,z5,zs⟩:=Bc b6
   simp only[mkA,dB,List.foldl_cons,List.foldl_nil,Act.put,List.setIfInBounds_toArray,List.set_cons_succ,List.set_cons_zero]
   clear r6 t6 hQ HV HPx hE hW hbV
   generalize (V.setCell ⟨g,i*16,none⟩ (.bool true)).setCells g (i*16+1) ((Cm x.c).enc none 0)=W6 at *
   go_wp2_with (first|(refine Ha rfl (.tmp 2) rfl rfl R6.out ?_;clear R6)|(refine Gz rfl (.tmp 4) (.tmp 111) rfl rfl rfl T6.out o6 ?_;clear T6))
   generalize W6.setCells (w.heap.size+1+1) 0 [c0,c1,c2,c3,c4,c5]=W7 at *
   refine bodyPost_ret (v:=.tuple #[.agg #[c0,c1,c2,c3,c4,c5],O J 0]) (by simp[results,Tryz.results22,go_sem,z0,z1,z2,z3,z4,z5]) rfl HQ.out
 focus
  have hE0:(8:Int)≠0:=by decide
  clear HCt
  go_wp2_with fail
  have HPx:Hid (PkH w W4 n0 lo2 aS aH aF aL cS cH cF cL g cT n M l x):=HP4.out
 rotate_left
 focus
  have hE0:=hC
  have hC':(E != 0)=true:=by simpa using hC
  clear HCt
  go_wp2_with fail
  have HPx:Hid (PkH w W4 n0 lo2 aS aH aF aL cS cH cF cL g cT n M l x):=HP4.out
 rotate_left
 focus
  have hE0:(7:Int)≠0:=by decide
  clear HCt
  go_wp2_with fail
  have HPx:Hid (PkH w W4 n0 lo2 aS aH aF aL cS cH cF cL g cT n M l x):=HP4.out
 rotate_left
 focus
  have hE0:(6:Int)≠0:=by decide
  go_wp2_with fail
  go_quiet (first|(go_at_call 33;exact Calls.quiet_of_same (HCt.out _)))
  have HPx:Hid (PkH w (W4.drewN nq) n0 lo2 aS aH aF aL cS cH cF cL g cT n M l x):=HP4.out.below (below_drewN (Below.refl _ _) nq)
  clear HCt HP4
  generalize W4.drewN nq=W5 at *
  go_wp2_with fail
 all_goals
  refine(Qq _ _).mono ?_
  rintro e V ⟨rfl,hbV⟩
  obtain⟨t6,r6,HR⟩:=Uj HPx.out.bz HPx.out.bel hE.out hE0 hbV
  clear HPx hE hbV x0 x1 x2 x3 x4 x5 x6 x7 x8 d0 d15
  go_wp2_with (refine Gz rfl (.tmp 4) (.tmp 100) rfl rfl rfl t6.out (by kernel_rfl) ?_;clear t6)
  generalize V.setCells (w.heap.size+1+1) 0 _=V2 at *
  obtain⟨r0,r1,r2,r3,r4,r5,rs⟩:=Bc r6.out
  refine bodyPost_ret (v:=.tuple #[.agg #[Y none 0 0,Y none 0 0,Y none 0 0,Y none 0 0,O J 0,Y none 0 0],O J _]) (by simp[results,Tryz.results22,go_sem,r0,r1,r2,r3,r4,r5]) rfl HR.out
end
end
end Go.Proofs.YthhgoenomehobaaGreat.mm
