/- Parts. -/
import Derived.Test.YthhgoenomehobaaGreatP12
import Derived.Deep.QuietTactic
import Derived.BigQuiet
import Derived.Lib.QuietBelow
namespace Go.Proofs.YthhgoenomehobaaGreat.mm
set_option maxRecDepth 100000
set_option linter.unusedVariables false
open Go.Value renaming int → O, slice → Y
open Go.IntKind renaming i64 → J
open Go.Proofs.Tryz renaming prog → Pg
open Go renaming World → Wq
open Go.ChangeShapes Go.WideShapes Go.ChangeAt Go.RowKit Go.Joins
set_option maxHeartbeats 3200000
section
variable {Xb:Ex}
structure Lk2(Xb:Ex)(w w1:Wq)(Z:Nat->Prop)(B lo:Nat)(M:Mm)(f:Fr)(aK:Option Addr)(cK:Nat):Prop where
 zl:∀ k,Z k->k<w.heap.size
 fine:Fine w w1 Z
 mine:∃ aS aH aF aL cS cH cF cL,Mine Xb w1 B lo aS aH aF aL cS cH cF cL M/\∀ k,Ac B aS aH aF aL k->Z k\/w.heap.size+2<=k
 fb:w1.heap[w.heap.size]?=some (.cells #[O J f.c.kind,O J f.c.a,O J f.c.b,O J f.c.time,O J f.c.bk,O J f.c.slot,O J f.pl,O J f.cur,O J f.prev,O J f.slot,O J f.n,Y aK f.keys.length cK,.bool f.done,O J f.e] 47 (0,0))
 zb:w1.heap[w.heap.size+1]?=some Ae
theorem Lk.after{w w1 w2:Wq}{B lo:Nat}{aS aH aF aL:Option Addr}{cS cH cF cL:Nat}{M M':Mm}{f:Fr}{aK:Option Addr}{cK:Nat}(h:Lk Xb w w1 B lo aS aH aF aL cS cH cF cL M f aK cK)
  (hh:Has Xb w2 B lo (Up w1 (Ac B aS aH aF aL)) M') (hf:Fine w1 w2 (Ac B aS aH aF aL)):Lk2 Xb w w2 (Ac B aS aH aF aL) B lo M' f aK cK:=by
 have s1:=lt_of_block h.fb
 have s2:=lt_of_block h.zb
 refine⟨h.lt,?_,?_,?_,?_⟩
 ·exact(Fine.of_below (w:=w) (w':=w1) _ h.bl).trans hf fun _ _ h=>h
 ·obtain⟨bS,bH,bF,bL,dS,dH,dF,dL,m,hz⟩:=hh
  refine⟨bS,bH,bF,bL,dS,dH,dF,dL,m,fun k hk=>?_⟩
  rcases hz k hk with h3|h3
  ·exact .inl h3
  ·exact .inr (by omega)
 ·exact(hf.block _ s1 (fun h3=>by have:=h.lt _ h3;omega)).trans h.fb
 ·exact(hf.block _ s2 (fun h3=>by have:=h.lt _ h3;omega)).trans h.zb
theorem Lk.D7{w w1:Wq}{B lo:Nat}{aS aH aF aL:Option Addr}{cS cH cF cL:Nat}{M:Mm}{f:Fr}{aK:Option Addr}{cK:Nat}{v0 v1 v2 v3 v4 v5 v6 v7 v8 v9 v10 v11 v12 v13:Value}(h:Lk Xb w w1 B lo aS aH aF aL cS cH cF cL M f aK cK):Has Xb ((((((((((((((w1.setCell ⟨w.heap.size+1,0,none⟩ v0).setCell ⟨w.heap.size+1,1,none⟩ v1).setCell ⟨w.heap.size+1,2,none⟩ v2).setCell ⟨w.heap.size+1,3,none⟩ v3).setCell ⟨w.heap.size+1,4,none⟩ v4).setCell ⟨w.heap.size+1,5,none⟩ v5).setCell ⟨w.heap.size+1,6,none⟩ v6).setCell ⟨w.heap.size+1,7,none⟩ v7).setCell ⟨w.heap.size+1,8,none⟩ v8).setCell ⟨w.heap.size+1,9,none⟩ v9).setCell ⟨w.heap.size+1,10,none⟩ v10).setCell ⟨w.heap.size+1,11,none⟩ v11).setCell ⟨w.heap.size+1,12,none⟩ v12).setCell ⟨w.heap.size+1,13,none⟩ v13) B lo (Up w (Ac B aS aH aF aL)) M /\
  Fine w ((((((((((((((w1.setCell ⟨w.heap.size+1,0,none⟩ v0).setCell ⟨w.heap.size+1,1,none⟩ v1).setCell ⟨w.heap.size+1,2,none⟩ v2).setCell ⟨w.heap.size+1,3,none⟩ v3).setCell ⟨w.heap.size+1,4,none⟩ v4).setCell ⟨w.heap.size+1,5,none⟩ v5).setCell ⟨w.heap.size+1,6,none⟩ v6).setCell ⟨w.heap.size+1,7,none⟩ v7).setCell ⟨w.heap.size+1,8,none⟩ v8).setCell ⟨w.heap.size+1,9,none⟩ v9).setCell ⟨w.heap.size+1,10,none⟩ v10).setCell ⟨w.heap.size+1,11,none⟩ v11).setCell ⟨w.heap.size+1,12,none⟩ v12).setCell ⟨w.heap.size+1,13,none⟩ v13) (Ac B aS aH aF aL):=by
 refine⟨⟨aS,aH,aF,aL,cS,cH,cF,cL,h.m.same (by simp) (fun k _ hk=>?_),fun k hk=>.inl hk⟩,.of_below _ (Zt h.bl)⟩
 have:=h.lt k hk
 repeat rw[Below.heap_setCell _ _ _ _ (by dsimp only;omega)]
section
variable {w w1 w2:Wq} {Z:Nat->Prop} {B lo:Nat} {M:Mm} {f:Fr} {aK:Option Addr} {cK:Nat}
theorem Lk2.below(h:Lk2 Xb w w1 Z B lo M f aK cK)(hb:Below w1.heap.size w1 w2):Lk2 Xb w w2 Z B lo M f aK cK:=by
 obtain⟨aS,aH,aF,aL,cS,cH,cF,cL,m,hz⟩:=h.mine
 exact⟨h.zl,h.fine.below hb,⟨aS,aH,aF,aL,cS,cH,cF,cL,m.below hb,hz⟩,(hb.block _ (lt_of_block h.fb)).trans h.fb,(hb.block _ (lt_of_block h.zb)).trans h.zb⟩
theorem Lk2.store(h:Lk2 Xb w w1 Z B lo M f aK cK)(j:Nat)(v:Value)(g:Fr)(hg:(#[O J f.c.kind,O J f.c.a,O J f.c.b,O J f.c.time,O J f.c.bk,O J f.c.slot,O J f.pl,O J f.cur,O J f.prev,O J f.slot,O J f.n,Y aK f.keys.length cK,.bool f.done,O J f.e]:Array Value).setIfInBounds j v=#[O J g.c.kind,O J g.c.a,O J g.c.b,O J g.c.time,O J g.c.bk,O J g.c.slot,O J g.pl,O J g.cur,O J g.prev,O J g.slot,O J g.n,Y aK g.keys.length cK,.bool g.done,O J g.e]) :
  Lk2 Xb w (w1.setCell ⟨w.heap.size,j,none⟩ v) Z B lo M g aK cK:=by
 obtain⟨aS,aH,aF,aL,cS,cH,cF,cL,m,hz⟩:=h.mine
 refine⟨h.zl,h.fine.set (.inr (Nat.le_refl _)) _ _,⟨aS,aH,aF,aL,cS,cH,cF,cL,m.same (by simp) (fun k _ hk=>?_),hz⟩,?_,by rw[Below.heap_setCell _ _ _ _ (by dsimp only;omega)];exact h.zb⟩
 ·have hk':k≠w.heap.size:=by
   rcases hz k hk with h3|h3
   ·have:=h.zl k h3;omega
   ·omega
  rw[Below.heap_setCell _ _ _ _ (by dsimp only;exact hk')]
 ·rw[block_setCell h.fb v,hg]
theorem Lk2.same(h:Lk2 Xb w w1 Z B lo M f aK cK)(hs:w1.heap.size<=w2.heap.size)(ho:w2.os=w1.os/\w2.tape=w1.tape/\w2.output=w1.output)(hk:∀ k,k≠w.heap.size+1->w2.heap[k]?=w1.heap[k]?):Has Xb w2 B lo (Up w Z) M/\Fine w w2 Z:=by
 obtain⟨aS,aH,aF,aL,cS,cH,cF,cL,m,hz⟩:=h.mine
 refine⟨⟨aS,aH,aF,aL,cS,cH,cF,cL,m.same hs (fun k _ h1=>hk k ?_),fun k h1=>?_⟩,⟨ho.1.trans h.fine.os,ho.2.1.trans h.fine.tape,ho.2.2.trans h.fine.output,Nat.le_trans h.fine.size hs,fun k h1 h2=>(hk k (by omega)).trans (h.fine.block k h1 h2)⟩⟩
 ·rcases hz k h1 with h3|h3
  ·have:=h.zl k h3;omega
  ·omega
 ·rcases hz k h1 with h3|h3
  ·exact .inl h3
  ·exact .inr (by omega)
theorem Lk2.D7{v0 v1 v2 v3 v4 v5 v6 v7 v8 v9 v10 v11 v12 v13:Value}(h:Lk2 Xb w w1 Z B lo M f aK cK):Has Xb ((((((((((((((w1.setCell ⟨w.heap.size+1,0,none⟩ v0).setCell ⟨w.heap.size+1,1,none⟩ v1).setCell ⟨w.heap.size+1,2,none⟩ v2).setCell ⟨w.heap.size+1,3,none⟩ v3).setCell ⟨w.heap.size+1,4,none⟩ v4).setCell ⟨w.heap.size+1,5,none⟩ v5).setCell ⟨w.heap.size+1,6,none⟩ v6).setCell ⟨w.heap.size+1,7,none⟩ v7).setCell ⟨w.heap.size+1,8,none⟩ v8).setCell ⟨w.heap.size+1,9,none⟩ v9).setCell ⟨w.heap.size+1,10,none⟩ v10).setCell ⟨w.heap.size+1,11,none⟩ v11).setCell ⟨w.heap.size+1,12,none⟩ v12).setCell ⟨w.heap.size+1,13,none⟩ v13) B lo (Up w Z) M /\
  Fine w ((((((((((((((w1.setCell ⟨w.heap.size+1,0,none⟩ v0).setCell ⟨w.heap.size+1,1,none⟩ v1).setCell ⟨w.heap.size+1,2,none⟩ v2).setCell ⟨w.heap.size+1,3,none⟩ v3).setCell ⟨w.heap.size+1,4,none⟩ v4).setCell ⟨w.heap.size+1,5,none⟩ v5).setCell ⟨w.heap.size+1,6,none⟩ v6).setCell ⟨w.heap.size+1,7,none⟩ v7).setCell ⟨w.heap.size+1,8,none⟩ v8).setCell ⟨w.heap.size+1,9,none⟩ v9).setCell ⟨w.heap.size+1,10,none⟩ v10).setCell ⟨w.heap.size+1,11,none⟩ v11).setCell ⟨w.heap.size+1,12,none⟩ v12).setCell ⟨w.heap.size+1,13,none⟩ v13) Z:=by
 have hb:=Zt (w:=w1) (w1:=w1) (n:=w.heap.size) (v0:=v0) (v1:=v1) (v2:=v2) (v3:=v3) (v4:=v4) (v5:=v5) (v6:=v6) (v7:=v7) (v8:=v8) (v9:=v9) (v10:=v10) (v11:=v11) (v12:=v12) (v13:=v13) (Below.refl _ _)
 refine h.same hb.size ⟨hb.os,hb.tape,hb.output⟩ (fun k hk=>?_)
 repeat rw[Below.heap_setCell _ _ _ _ (by dsimp only;exact hk)]
end
end
section
open Go.Deep Go.Sort
variable {Xb:Ex}
def Ei(M:Mm)(f:Fr):Fr:=if Dc M f.slot then { f with slot:=-1 } else f
theorem O4(M:Mm)(f:Fr)(B lo:Nat)(aS aH aF aL:Option Addr)(cS cH cF cL:Nat)(aK:Option Addr)(cK:Nat)(w:Wq)
  (m:Mine Xb w B lo aS aH aF aL cS cH cF cL M) (hM:Ok M) :
  Calls Pg 202 #[.pointer (some ⟨B,0,none⟩),.agg #[O J f.c.kind,O J f.c.a,O J f.c.b,O J f.c.time,O J f.c.bk,O J f.c.slot,O J f.pl,O J f.cur,O J f.prev,O J f.slot,O J f.n,Y aK f.keys.length cK,.bool f.done,O J f.e]] w fun e w'=>e=.returned (.tuple #[.agg #[O J (Ei M f).c.kind,O J (Ei M f).c.a,O J (Ei M f).c.b,O J (Ei M f).c.time,O J (Ei M f).c.bk,O J (Ei M f).c.slot,O J (Ei M f).pl,O J (Ei M f).cur,O J (Ei M f).prev,O J (Ei M f).slot,O J (Ei M f).n,Y aK (Ei M f).keys.length cK,.bool (Ei M f).done,O J (Ei M f).e],.bool (Dc M f.slot)])/\Has Xb w' B lo (Up w (Ac B aS aH aF aL)) (Ee M f)/\Fine w w' (Ac B aS aH aF aL):=by
 have hns:=hM.ns
 have HHs:Hid (∀ W:Wq,Calls Pg 111 #[.agg #[Y aS M.slots.length cS,Y aH M.heads.length cH,Y aF M.free.length cF,Y aL M.locks.length cL,O J M.now],O J f.slot] W fun e w'=>e=.returned (.bool (Dc M f.slot))/\Below W.heap.size W w'):=fun W=>Ed aS aH aF aL _ _ _ _ cS cH cF cL M.now f.slot W (by omega)
 cases hsl:Dc M f.slot
 ·have hres:Ei M f=f:=by unfold Ei;rw[hsl];rfl
  have hresM:Ee M f=M:=by unfold Ee;rw[hsl];rfl
  rw[hres,hresM]
  rw[hsl] at HHs
  obtain⟨of,hof⟩:=frObj f aK cK
  obtain⟨oz,hoz⟩:∃ o:Obj,o=Ae:=⟨_,rfl⟩
  have HE:Hid (Lk Xb w ((w.alloc of).alloc oz) B lo aS aH aF aL cS cH cF cL M f aK cK):=Lk.first m f aK cK hof hoz
  obtain⟨q0,q1,q2,q3,q4,-,-,-,-,-,qs⟩:=Af HE.out.m.box
  obtain⟨f0,f1,f2,f3,f4,f5,f6,f7,f8,f9,f10,f11,f12,f13,ff,fs⟩:=A8 HE.out.fb
  unfold Ae at hoz
  clear m hres hresM hsl hns hM
  go_enter Tryz.func202,Tryz.ntmps202
  go_wp2_with fail
  rw[<- hof,<- hoz]
  generalize (w.alloc of).alloc oz=W0 at *
  subst hof hoz
  have cB:∀ (d:Nat) (os:Array Obj),Calls Pg 111 #[.agg #[Y aS M.slots.length cS,Y aH M.heads.length cH,Y aF M.free.length cF,Y aL M.locks.length cL,O J M.now],O J f.slot] (grow (redrawn W0 d) os) fun e w''=>e=.returned (.bool false)/\∃ p:Regrown,w''=grow (redrawn W0 p.d) p.os:=fun d os=>Calls.regrown_of (HHs.out _)
  have Q0:=cell_regrown q0;have Q1:=cell_regrown q1;have Q2:=cell_regrown q2;have Q3:=cell_regrown q3;have Q4:=cell_regrown q4
  have F9:=cell_regrown f9
  clear q0 q1 q2 q3 q4 qs f0 f1 f2 f3 f4 f5 f6 f7 f8 f9 f10 f11 f12 f13 ff fs
  refine wp_region_quiet_below (by kernel_rfl) (by kernel_rfl) ?_
  repeat (quiet_step (first|exact cB _ _))
  refine wpQuiet_nil ?_
  intro _ hw'
  obtain⟨⟨dq,osq⟩,hw''⟩:=hw'
  subst hw''
  have HB1:Hid _:=below_regrown W0 dq osq
  generalize grow (redrawn W0 dq) osq=w1 at *
  clear cB Q0 Q1 Q2 Q3 Q4 F9
  have HE1:Hid (Lk Xb w w1 B lo aS aH aF aL cS cH cF cL M f aK cK):=HE.out.below HB1.out
  clear HB1 HE
  obtain⟨q0,q1,q2,q3,q4,-,-,-,-,-,qs⟩:=Af HE1.out.m.box
  obtain⟨f0,f1,f2,f3,f4,f5,f6,f7,f8,f9,f10,f11,f12,f13,ff,fs⟩:=A8 HE1.out.fb
  obtain⟨g0,g1,g2,g3,g4,g5,g6,g7,g8,g9,g10,g11,g12,g13,gf,gs⟩:=A8 HE1.out.zb
  go_wp2
  refine bodyPost_ret (v:=.tuple #[.agg #[O J f.c.kind,O J f.c.a,O J f.c.b,O J f.c.time,O J f.c.bk,O J f.c.slot,O J f.pl,O J f.cur,O J f.prev,O J f.slot,O J f.n,Y aK f.keys.length cK,.bool f.done,O J f.e],.bool false]) (by simp[results,Tryz.results202,go_sem,g0,g1,g2,g3,g4,g5,g6,g7,g8,g9,g10,g11,g12,g13]) rfl ⟨rfl,HE1.out.D7⟩
 ·have hres:Ei M f = { f with slot:=-1 }:=by unfold Ei;rw[hsl];rfl
  have hresM:Ee M f=Em M f.slot:=by unfold Ee;rw[hsl];rfl
  rw[hres,hresM]
  have HPt:Hid (∀ (W:Wq) (Z:Nat->Prop),Has Xb W B lo Z M->Calls Pg 197 #[.pointer (some ⟨B,0,none⟩),O J f.slot] W fun e w'=>e=.returned (.bool (decide (Dy M f.slot≠0)))/\Has Xb w' B lo (Up W Z) (Em M f.slot)/\Fine W w' Z):=fun W Z h=>Zn h hM hsl
  generalize Em M f.slot=M' at *
  generalize decide (Dy M f.slot≠0)=pr at *
  rw[hsl] at HHs
  obtain⟨of,hof⟩:=frObj f aK cK
  obtain⟨oz,hoz⟩:∃ o:Obj,o=Ae:=⟨_,rfl⟩
  have HE:Hid (Lk Xb w ((w.alloc of).alloc oz) B lo aS aH aF aL cS cH cF cL M f aK cK):=Lk.first m f aK cK hof hoz
  obtain⟨q0,q1,q2,q3,q4,-,-,-,-,-,qs⟩:=Af HE.out.m.box
  obtain⟨f0,f1,f2,f3,f4,f5,f6,f7,f8,f9,f10,f11,f12,f13,ff,fs⟩:=A8 HE.out.fb
  unfold Ae at hoz
  clear m hres hresM hsl hns hM
  go_enter Tryz.func202,Tryz.ntmps202
  go_wp2_with fail
  rw[<- hof,<- hoz]
  generalize (w.alloc of).alloc oz=W0 at *
  subst hof hoz
  have cB:∀ (d:Nat) (os:Array Obj),Calls Pg 111 #[.agg #[Y aS M.slots.length cS,Y aH M.heads.length cH,Y aF M.free.length cF,Y aL M.locks.length cL,O J M.now],O J f.slot] (grow (redrawn W0 d) os) fun e w''=>e=.returned (.bool true)/\∃ p:Regrown,w''=grow (redrawn W0 p.d) p.os:=fun d os=>Calls.regrown_of (HHs.out _)
  have Q0:=cell_regrown q0;have Q1:=cell_regrown q1;have Q2:=cell_regrown q2;have Q3:=cell_regrown q3;have Q4:=cell_regrown q4
  have F9:=cell_regrown f9
  clear q0 q1 q2 q3 q4 qs f0 f1 f2 f3 f4 f5 f6 f7 f8 f9 f10 f11 f12 f13 ff fs
  refine wp_region_quiet_below (by kernel_rfl) (by kernel_rfl) ?_
  repeat (quiet_step (first|exact cB _ _))
  refine wpQuiet_nil ?_
  intro _ hw'
  obtain⟨⟨dq,osq⟩,hw''⟩:=hw'
  subst hw''
  have HB1:Hid _:=below_regrown W0 dq osq
  generalize grow (redrawn W0 dq) osq=w1 at *
  clear cB Q0 Q1 Q2 Q3 Q4 F9
  have HE1:Hid (Lk Xb w w1 B lo aS aH aF aL cS cH cF cL M f aK cK):=HE.out.below HB1.out
  clear HB1 HE
  obtain⟨q0,q1,q2,q3,q4,-,-,-,-,-,qs⟩:=Af HE1.out.m.box
  obtain⟨f0,f1,f2,f3,f4,f5,f6,f7,f8,f9,f10,f11,f12,f13,ff,fs⟩:=A8 HE1.out.fb
  go_wp2_with fail
  refine(HPt.out w1 (Ac B aS aH aF aL) ⟨_,_,_,_,_,_,_,_,HE1.out.m,fun _ h=>h⟩).mono ?_
  rintro e w2 ⟨rfl,hh2,hf2⟩
  have HE2:Hid (Lk2 Xb w w2 (Ac B aS aH aF aL) B lo M' f aK cK):=HE1.out.after hh2 hf2
  clear HE1 hh2 hf2
  clear q0 q1 q2 q3 q4 qs f0 f1 f2 f3 f4 f5 f6 f7 f8 f9 f10 f11 f12 f13 ff fs
  obtain⟨f0,f1,f2,f3,f4,f5,f6,f7,f8,f9,f10,f11,f12,f13,ff,fs⟩:=A8 HE2.out.fb
  obtain⟨g0,g1,g2,g3,g4,g5,g6,g7,g8,g9,g10,g11,g12,g13,gf,gs⟩:=A8 HE2.out.zb
  have HE3:Hid (Lk2 Xb w (w2.setCell ⟨w.heap.size,9,none⟩ (O J (-1))) (Ac B aS aH aF aL) B lo M' { f with slot:=-1 } aK cK):=HE2.out.store 9 (O J (-1)) { f with slot:=-1 } rfl
  clear HE2
  go_wp2
  refine bodyPost_ret (v:=.tuple #[.agg #[O J ({ f with slot:=-1 }).c.kind,O J ({ f with slot:=-1 }).c.a,O J ({ f with slot:=-1 }).c.b,O J ({ f with slot:=-1 }).c.time,O J ({ f with slot:=-1 }).c.bk,O J ({ f with slot:=-1 }).c.slot,O J ({ f with slot:=-1 }).pl,O J ({ f with slot:=-1 }).cur,O J ({ f with slot:=-1 }).prev,O J ({ f with slot:=-1 }).slot,O J ({ f with slot:=-1 }).n,Y aK ({ f with slot:=-1 }).keys.length cK,.bool ({ f with slot:=-1 }).done,O J ({ f with slot:=-1 }).e],.bool true]) (by simp[results,Tryz.results202,go_sem,g0,g1,g2,g3,g4,g5,g6,g7,g8,g9,g10,g11,g12,g13]) rfl ⟨rfl,HE3.out.D7⟩
theorem Lk2.all{w w1:Wq}{Z:Nat->Prop}{B lo:Nat}{M:Mm}{f:Fr}{aK:Option Addr}{cK:Nat}(h:Lk2 Xb w w1 Z B lo M f aK cK)(g:Fr) :
  Lk2 Xb w ((((((((((((((w1.setCell ⟨w.heap.size,0,none⟩ (O J g.c.kind)).setCell ⟨w.heap.size,1,none⟩ (O J g.c.a)).setCell ⟨w.heap.size,2,none⟩ (O J g.c.b)).setCell ⟨w.heap.size,3,none⟩ (O J g.c.time)).setCell ⟨w.heap.size,4,none⟩ (O J g.c.bk)).setCell ⟨w.heap.size,5,none⟩ (O J g.c.slot)).setCell ⟨w.heap.size,6,none⟩ (O J g.pl)).setCell ⟨w.heap.size,7,none⟩ (O J g.cur)).setCell ⟨w.heap.size,8,none⟩ (O J g.prev)).setCell ⟨w.heap.size,9,none⟩ (O J g.slot)).setCell ⟨w.heap.size,10,none⟩ (O J g.n)).setCell ⟨w.heap.size,11,none⟩ (Y aK g.keys.length cK)).setCell ⟨w.heap.size,12,none⟩ (.bool g.done)).setCell ⟨w.heap.size,13,none⟩ (O J g.e)) Z B lo M g aK cK :=
 ((((((((((((((h).store 0 (O J g.c.kind) ⟨⟨g.c.kind,f.c.a,f.c.b,f.c.time,f.c.bk,f.c.slot⟩,f.pl,f.cur,f.prev,f.slot,f.n,f.keys,f.done,f.e⟩ rfl).store 1 (O J g.c.a) ⟨⟨g.c.kind,g.c.a,f.c.b,f.c.time,f.c.bk,f.c.slot⟩,f.pl,f.cur,f.prev,f.slot,f.n,f.keys,f.done,f.e⟩ rfl).store 2 (O J g.c.b) ⟨⟨g.c.kind,g.c.a,g.c.b,f.c.time,f.c.bk,f.c.slot⟩,f.pl,f.cur,f.prev,f.slot,f.n,f.keys,f.done,f.e⟩ rfl).store 3 (O J g.c.time) ⟨⟨g.c.kind,g.c.a,g.c.b,g.c.time,f.c.bk,f.c.slot⟩,f.pl,f.cur,f.prev,f.slot,f.n,f.keys,f.done,f.e⟩ rfl).store 4 (O J g.c.bk) ⟨⟨g.c.kind,g.c.a,g.c.b,g.c.time,g.c.bk,f.c.slot⟩,f.pl,f.cur,f.prev,f.slot,f.n,f.keys,f.done,f.e⟩ rfl).store 5 (O J g.c.slot) ⟨⟨g.c.kind,g.c.a,g.c.b,g.c.time,g.c.bk,g.c.slot⟩,f.pl,f.cur,f.prev,f.slot,f.n,f.keys,f.done,f.e⟩ rfl).store 6 (O J g.pl) ⟨⟨g.c.kind,g.c.a,g.c.b,g.c.time,g.c.bk,g.c.slot⟩,g.pl,f.cur,f.prev,f.slot,f.n,f.keys,f.done,f.e⟩ rfl).store 7 (O J g.cur) ⟨⟨g.c.kind,g.c.a,g.c.b,g.c.time,g.c.bk,g.c.slot⟩,g.pl,g.cur,f.prev,f.slot,f.n,f.keys,f.done,f.e⟩ rfl).store 8 (O J g.prev) ⟨⟨g.c.kind,g.c.a,g.c.b,g.c.time,g.c.bk,g.c.slot⟩,g.pl,g.cur,g.prev,f.slot,f.n,f.keys,f.done,f.e⟩ rfl).store 9 (O J g.slot) ⟨⟨g.c.kind,g.c.a,g.c.b,g.c.time,g.c.bk,g.c.slot⟩,g.pl,g.cur,g.prev,g.slot,f.n,f.keys,f.done,f.e⟩ rfl).store 10 (O J g.n) ⟨⟨g.c.kind,g.c.a,g.c.b,g.c.time,g.c.bk,g.c.slot⟩,g.pl,g.cur,g.prev,g.slot,g.n,f.keys,f.done,f.e⟩ rfl).store 11 (Y aK g.keys.length cK) ⟨⟨g.c.kind,g.c.a,g.c.b,g.c.time,g.c.bk,g.c.slot⟩,g.pl,g.cur,g.prev,g.slot,g.n,g.keys,f.done,f.e⟩ rfl).store 12 (.bool g.done) ⟨⟨g.c.kind,g.c.a,g.c.b,g.c.time,g.c.bk,g.c.slot⟩,g.pl,g.cur,g.prev,g.slot,g.n,g.keys,g.done,f.e⟩ rfl).store 13 (O J g.e) ⟨⟨g.c.kind,g.c.a,g.c.b,g.c.time,g.c.bk,g.c.slot⟩,g.pl,g.cur,g.prev,g.slot,g.n,g.keys,g.done,g.e⟩ rfl
end
end Go.Proofs.YthhgoenomehobaaGreat.mm
