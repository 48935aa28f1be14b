/- Parts. -/
import Derived.Test.YthhgoenomehobaaGreatG09
namespace Go.Proofs.YthhgoenomehobaaGreat.mm
set_option maxRecDepth 100000
set_option linter.unusedVariables false
open Go.Value renaming int → O, slice → Y
open Go.IntKind renaming i64 → J
section
open Go.ChangeShapes Go.WideShapes Go.ChangeAt Go.RowKit Go.Joins
variable {Xb:Ex}
structure Lk2(Xb:Ex)(w w1:World)(Z:Nat->Prop)(B lo:Nat)(M:Mm)(f:Fr)(aK:Option Addr)(cK:Nat):Prop where
 zl:∀ k,Z k->k<w.heap.size
 fine:Fine w w1 Z
 mine:∃ aS aH aF aL cS cH cF cL,Mine Xb w1 B lo aS aH aF aL cS cH cF cL M/\∀ k,Foot B aS aH aF aL k->Z k\/w.heap.size+2<=k
 fb:w1.heap[w.heap.size]?=some (.cells #[O J f.c.kind,O J f.c.a,O J f.c.b,O J f.c.time,O J f.c.bk,O J f.c.slot,O J f.pl,O J f.cur,O J f.prev,O J f.slot,O J f.n,Y aK f.keys.length cK,.bool f.done,O J f.e] 47 (0,0))
 zb:w1.heap[w.heap.size+1]?=some Ac
theorem Lk.after{w w1 w2:World}{B lo:Nat}{aS aH aF aL:Option Addr}{cS cH cF cL:Nat}{M M':Mm}{f:Fr}{aK:Option Addr}{cK:Nat}(h:Lk Xb w w1 B lo aS aH aF aL cS cH cF cL M f aK cK)
  (hh:Has Xb w2 B lo (Up w1 (Foot B aS aH aF aL)) M') (hf:Fine w1 w2 (Foot B aS aH aF aL)):Lk2 Xb w w2 (Foot B aS aH aF aL) B lo M' f aK cK:=by
 have s1:=lt_of_block h.fb
 have s2:=lt_of_block h.zb
 refine⟨h.lt,?_,?_,?_,?_⟩
 ·exact(Fine.of_below (w:=w) (w':=w1) _ h.bl).trans hf fun _ _ h=>h
 ·obtain⟨bS,bH,bF,bL,dS,dH,dF,dL,m,hz⟩:=hh
  refine⟨bS,bH,bF,bL,dS,dH,dF,dL,m,fun k hk=>?_⟩
  rcases hz k hk with h3|h3
  ·exact .inl h3
  ·exact .inr (by omega)
 ·exact(hf.block _ s1 (fun h3=>by have:=h.lt _ h3;omega)).trans h.fb
 ·exact(hf.block _ s2 (fun h3=>by have:=h.lt _ h3;omega)).trans h.zb
theorem Lk.Ae{w w1:World}{B lo:Nat}{aS aH aF aL:Option Addr}{cS cH cF cL:Nat}{M:Mm}{f:Fr}{aK:Option Addr}{cK:Nat}{v0 v1 v2 v3 v4 v5 v6 v7 v8 v9 v10 v11 v12 v13:Value}(h:Lk Xb w w1 B lo aS aH aF aL cS cH cF cL M f aK cK):Has Xb ((((((((((((((w1.setCell ⟨w.heap.size+1,0,none⟩ v0).setCell ⟨w.heap.size+1,1,none⟩ v1).setCell ⟨w.heap.size+1,2,none⟩ v2).setCell ⟨w.heap.size+1,3,none⟩ v3).setCell ⟨w.heap.size+1,4,none⟩ v4).setCell ⟨w.heap.size+1,5,none⟩ v5).setCell ⟨w.heap.size+1,6,none⟩ v6).setCell ⟨w.heap.size+1,7,none⟩ v7).setCell ⟨w.heap.size+1,8,none⟩ v8).setCell ⟨w.heap.size+1,9,none⟩ v9).setCell ⟨w.heap.size+1,10,none⟩ v10).setCell ⟨w.heap.size+1,11,none⟩ v11).setCell ⟨w.heap.size+1,12,none⟩ v12).setCell ⟨w.heap.size+1,13,none⟩ v13) B lo (Up w (Foot B aS aH aF aL)) M /\
  Fine w ((((((((((((((w1.setCell ⟨w.heap.size+1,0,none⟩ v0).setCell ⟨w.heap.size+1,1,none⟩ v1).setCell ⟨w.heap.size+1,2,none⟩ v2).setCell ⟨w.heap.size+1,3,none⟩ v3).setCell ⟨w.heap.size+1,4,none⟩ v4).setCell ⟨w.heap.size+1,5,none⟩ v5).setCell ⟨w.heap.size+1,6,none⟩ v6).setCell ⟨w.heap.size+1,7,none⟩ v7).setCell ⟨w.heap.size+1,8,none⟩ v8).setCell ⟨w.heap.size+1,9,none⟩ v9).setCell ⟨w.heap.size+1,10,none⟩ v10).setCell ⟨w.heap.size+1,11,none⟩ v11).setCell ⟨w.heap.size+1,12,none⟩ v12).setCell ⟨w.heap.size+1,13,none⟩ v13) (Foot B aS aH aF aL):=by
 refine⟨⟨aS,aH,aF,aL,cS,cH,cF,cL,h.m.same (by simp) (fun k _ hk=>?_),fun k hk=>.inl hk⟩,.of_below _ (Gg h.bl)⟩
 have:=h.lt k hk
 repeat rw[Below.heap_setCell _ _ _ _ (by dsimp only;omega)]
section
variable {w w1 w2:World} {Z:Nat->Prop} {B lo:Nat} {M:Mm} {f:Fr} {aK:Option Addr} {cK:Nat}
theorem Lk2.below(h:Lk2 Xb w w1 Z B lo M f aK cK)(hb:Below w1.heap.size w1 w2):Lk2 Xb w w2 Z B lo M f aK cK:=by
 obtain⟨aS,aH,aF,aL,cS,cH,cF,cL,m,hz⟩:=h.mine
 exact⟨h.zl,h.fine.below hb,⟨aS,aH,aF,aL,cS,cH,cF,cL,m.below hb,hz⟩,(hb.block _ (lt_of_block h.fb)).trans h.fb,(hb.block _ (lt_of_block h.zb)).trans h.zb⟩
theorem Lk2.store(h:Lk2 Xb w w1 Z B lo M f aK cK)(j:Nat)(v:Value)(g:Fr)(hg:(#[O J f.c.kind,O J f.c.a,O J f.c.b,O J f.c.time,O J f.c.bk,O J f.c.slot,O J f.pl,O J f.cur,O J f.prev,O J f.slot,O J f.n,Y aK f.keys.length cK,.bool f.done,O J f.e]:Array Value).setIfInBounds j v=#[O J g.c.kind,O J g.c.a,O J g.c.b,O J g.c.time,O J g.c.bk,O J g.c.slot,O J g.pl,O J g.cur,O J g.prev,O J g.slot,O J g.n,Y aK g.keys.length cK,.bool g.done,O J g.e]) :
  Lk2 Xb w (w1.setCell ⟨w.heap.size,j,none⟩ v) Z B lo M g aK cK:=by
 obtain⟨aS,aH,aF,aL,cS,cH,cF,cL,m,hz⟩:=h.mine
 refine⟨h.zl,h.fine.set (.inr (Nat.le_refl _)) _ _,⟨aS,aH,aF,aL,cS,cH,cF,cL,m.same (by simp) (fun k _ hk=>?_),hz⟩,?_,by rw[Below.heap_setCell _ _ _ _ (by dsimp only;omega)];exact h.zb⟩
 ·have hk':k≠w.heap.size:=by
   rcases hz k hk with h3|h3
   ·have:=h.zl k h3;omega
   ·omega
  rw[Below.heap_setCell _ _ _ _ (by dsimp only;exact hk')]
 ·rw[block_setCell h.fb v,hg]
theorem Lk2.same(h:Lk2 Xb w w1 Z B lo M f aK cK)(hs:w1.heap.size<=w2.heap.size)(ho:w2.os=w1.os/\w2.tape=w1.tape/\w2.output=w1.output)(hk:∀ k,k≠w.heap.size+1->w2.heap[k]?=w1.heap[k]?):Has Xb w2 B lo (Up w Z) M/\Fine w w2 Z:=by
 obtain⟨aS,aH,aF,aL,cS,cH,cF,cL,m,hz⟩:=h.mine
 refine⟨⟨aS,aH,aF,aL,cS,cH,cF,cL,m.same hs (fun k _ h1=>hk k ?_),fun k h1=>?_⟩,⟨ho.1.trans h.fine.os,ho.2.1.trans h.fine.tape,ho.2.2.trans h.fine.output,Nat.le_trans h.fine.size hs,fun k h1 h2=>(hk k (by omega)).trans (h.fine.block k h1 h2)⟩⟩
 ·rcases hz k h1 with h3|h3
  ·have:=h.zl k h3;omega
  ·omega
 ·rcases hz k h1 with h3|h3
  ·exact .inl h3
  ·exact .inr (by omega)
theorem Lk2.Ae{v0 v1 v2 v3 v4 v5 v6 v7 v8 v9 v10 v11 v12 v13:Value}(h:Lk2 Xb w w1 Z B lo M f aK cK):Has Xb ((((((((((((((w1.setCell ⟨w.heap.size+1,0,none⟩ v0).setCell ⟨w.heap.size+1,1,none⟩ v1).setCell ⟨w.heap.size+1,2,none⟩ v2).setCell ⟨w.heap.size+1,3,none⟩ v3).setCell ⟨w.heap.size+1,4,none⟩ v4).setCell ⟨w.heap.size+1,5,none⟩ v5).setCell ⟨w.heap.size+1,6,none⟩ v6).setCell ⟨w.heap.size+1,7,none⟩ v7).setCell ⟨w.heap.size+1,8,none⟩ v8).setCell ⟨w.heap.size+1,9,none⟩ v9).setCell ⟨w.heap.size+1,10,none⟩ v10).setCell ⟨w.heap.size+1,11,none⟩ v11).setCell ⟨w.heap.size+1,12,none⟩ v12).setCell ⟨w.heap.size+1,13,none⟩ v13) B lo (Up w Z) M /\
  Fine w ((((((((((((((w1.setCell ⟨w.heap.size+1,0,none⟩ v0).setCell ⟨w.heap.size+1,1,none⟩ v1).setCell ⟨w.heap.size+1,2,none⟩ v2).setCell ⟨w.heap.size+1,3,none⟩ v3).setCell ⟨w.heap.size+1,4,none⟩ v4).setCell ⟨w.heap.size+1,5,none⟩ v5).setCell ⟨w.heap.size+1,6,none⟩ v6).setCell ⟨w.heap.size+1,7,none⟩ v7).setCell ⟨w.heap.size+1,8,none⟩ v8).setCell ⟨w.heap.size+1,9,none⟩ v9).setCell ⟨w.heap.size+1,10,none⟩ v10).setCell ⟨w.heap.size+1,11,none⟩ v11).setCell ⟨w.heap.size+1,12,none⟩ v12).setCell ⟨w.heap.size+1,13,none⟩ v13) Z:=by
 have hb:=Gg (w:=w1) (w1:=w1) (n:=w.heap.size) (v0:=v0) (v1:=v1) (v2:=v2) (v3:=v3) (v4:=v4) (v5:=v5) (v6:=v6) (v7:=v7) (v8:=v8) (v9:=v9) (v10:=v10) (v11:=v11) (v12:=v12) (v13:=v13) (Below.refl _ _)
 refine h.same hb.size ⟨hb.os,hb.tape,hb.output⟩ (fun k hk=>?_)
 repeat rw[Below.heap_setCell _ _ _ _ (by dsimp only;exact hk)]
end
set_option maxHeartbeats 3200000 in
theorem a5j(M:Mm)(f:Fr)(B lo:Nat)(aS aH aF aL:Option Addr)(cS cH cF cL:Nat)(aK:Option Addr)(cK:Nat)(w:World)
  (m:Mine Xb w B lo aS aH aF aL cS cH cF cL M) (hM:Ok M) (hf:Fit M f) (r:KRow w aK cK f.keys) (hz:∀ ad,aK=some ad->¬ Foot B aS aH aF aL ad.block) :
  Calls Tryz.prog 167 #[.pointer (some ⟨B,0,none⟩),.agg #[O J f.c.kind,O J f.c.a,O J f.c.b,O J f.c.time,O J f.c.bk,O J f.c.slot,O J f.pl,O J f.cur,O J f.prev,O J f.slot,O J f.n,Y aK f.keys.length cK,.bool f.done,O J f.e]] w fun e w'=>Ret w w' e (H6 M f) aK cK/\Has Xb w' B lo (Up w (Foot B aS aH aF aL)) (I8 M f)/\Fine w w' (Foot B aS aH aF aL):=by
 have hns:=hM.ns
 have hcur:=hf.cur.2
 have hc1:f.cur<=1000:=by omega
 have hn1:M.slots.length<=1000:=by omega
 have HR:Hid (KRow w aK cK f.keys):=r
 by_cases hat:isAt M f=true
 ·have h1:=Bg.1 hat
  have HOk:Hid (Ok M):=hM
  obtain⟨j,hj⟩:∃ j:Nat,f.cur - 1=j:=⟨(f.cur - 1).toNat,by omega⟩
  have hjl:j<M.slots.length:=by omega
  obtain⟨gS,rfl,oS,lS,kS,-⟩:=C9 m.c.s (by omega)
  have HZ:Hid (∀ ad,aK=some ad->¬ Foot B (some ⟨gS,0,none⟩) aH aF aL ad.block):=hz
  have HSl:Hid (isSl M (j:Int)=true):=Aq.2 (by omega)
  have hst:stN f=j:=by unfold stN;rw[if_neg (by omega)];exact hj
  have hresM:I8 M f=holdN M j:=by unfold I8;rw[if_pos hat,hj]
  rw[hresM]
  obtain⟨M',hM'⟩:∃ M',M'=holdN M j:=⟨_,rfl⟩
  have HSt:Hid (∀ (W:World),Mine Xb W B lo (some ⟨gS,0,none⟩) aH aF aL cS cH cF cL M->Calls Tryz.prog 200 #[.pointer (some ⟨B,0,none⟩),.agg #[O J f.c.kind,O J f.c.a,O J f.c.b,O J f.c.time,O J f.c.bk,O J f.c.slot,O J f.pl,O J f.cur,O J f.prev,O J f.slot,O J f.n,Y aK f.keys.length cK,.bool f.done,O J f.e]] W fun e w'=>e=.returned (.tuple #[O J (j:Int),.bool true])/\Below W.heap.size W w'):=fun W m'=>by
   have:=Ba M f B _ aH aF aL cS cH cF cL aK cK W m'.box hc1 hn1
   rwa [hst,hat] at this
  have HHd:Hid (∀ (W:World) (Z:Nat->Prop),Has Xb W B lo Z M->Calls Tryz.prog 201 #[.pointer (some ⟨B,0,none⟩),O J (j:Int)] W fun e w'=>e=.returned (.bool (canH M j))/\Has Xb w' B lo (Up W Z) M'/\Fine W w' Z):=fun W Z h=>by rw[hM'];exact a5i h HOk.out HSl.out
  rw[<- hM']
  cases hcan:canH M j
  ·have hres:H6 M f=toF f 0:=by unfold H6;rw[hat,hj,hcan];rfl
   rw[hres]
   rw[hcan] at HHd
   obtain⟨of,hof⟩:=frObj f aK cK
   obtain⟨oz,hoz⟩:∃ o:Obj,o=Ac:=⟨_,rfl⟩
   have HE:Hid (Lk Xb w ((w.alloc of).alloc oz) B lo (some ⟨gS,0,none⟩) aH aF aL cS cH cF cL M f aK cK):=Lk.first m f aK cK hof hoz
   obtain⟨q0,q1,q2,q3,q4,-,-,-,-,-,qs⟩:=boxf HE.out.m.box
   obtain⟨f0,f1,f2,f3,f4,f5,f6,f7,f8,f9,f10,f11,f12,f13,ff,fs⟩:=A8 HE.out.fb
   unfold Ac at hoz
   clear m hres hst hat h1 hc1 hn1 hcur hns hM hf r hcan hM' hresM hz
   go_enter Tryz.func167,Tryz.ntmps167
   go_wp2_with fail
   rw[<- hof,<- hoz]
   generalize (w.alloc of).alloc oz=W0 at *
   subst hof hoz
   refine(HSt.out W0 HE.out.m).mono ?_
   rintro e w1 ⟨rfl,hb1⟩
   have HE1:Hid (Lk Xb w w1 B lo (some ⟨gS,0,none⟩) aH aF aL cS cH cF cL M f aK cK):=HE.out.below hb1
   clear HE hb1
   clear q0 q1 q2 q3 q4 qs f0 f1 f2 f3 f4 f5 f6 f7 f8 f9 f10 f11 f12 f13 ff fs
   obtain⟨q0,q1,q2,q3,q4,-,-,-,-,-,qs⟩:=boxf HE1.out.m.box
   obtain⟨f0,f1,f2,f3,f4,f5,f6,f7,f8,f9,f10,f11,f12,f13,ff,fs⟩:=A8 HE1.out.fb
   go_wp2_with fail
   refine(HHd.out w1 (Foot B (some ⟨gS,0,none⟩) aH aF aL) ⟨_,_,_,_,_,_,_,_,HE1.out.m,fun _ h=>h⟩).mono ?_
   rintro e w2 ⟨rfl,hh2,hf2⟩
   have HE2:Hid (Lk2 Xb w w2 (Foot B (some ⟨gS,0,none⟩) aH aF aL) B lo M' f aK cK):=HE1.out.after hh2 hf2
   clear HE1 hh2 hf2
   clear q0 q1 q2 q3 q4 qs f0 f1 f2 f3 f4 f5 f6 f7 f8 f9 f10 f11 f12 f13 ff fs
   obtain⟨f0,f1,f2,f3,f4,f5,f6,f7,f8,f9,f10,f11,f12,f13,ff,fs⟩:=A8 HE2.out.fb
   go_wp2_with fail
   refine(Bv f 0 aK cK _).mono ?_
   rintro e w9 ⟨rfl,hb9⟩
   have HE9:Hid (Lk2 Xb w w9 (Foot B (some ⟨gS,0,none⟩) aH aF aL) B lo M' f aK cK):=HE2.out.below hb9
   clear HE2 hb9
   clear f0 f1 f2 f3 f4 f5 f6 f7 f8 f9 f10 f11 f12 f13 ff fs
   obtain⟨g0,g1,g2,g3,g4,g5,g6,g7,g8,g9,g10,g11,g12,g13,gf,gs⟩:=A8 HE9.out.zb
   go_wp2
   refine bodyPost_ret (v:=.agg #[O J (toF f 0).c.kind,O J (toF f 0).c.a,O J (toF f 0).c.b,O J (toF f 0).c.time,O J (toF f 0).c.bk,O J (toF f 0).c.slot,O J (toF f 0).pl,O J (toF f 0).cur,O J (toF f 0).prev,O J (toF f 0).slot,O J (toF f 0).n,Y aK (toF f 0).keys.length cK,.bool (toF f 0).done,O J (toF f 0).e]) (by simp[results,Tryz.results167,go_sem,toF,g0,g1,g2,g3,g4,g5,g6,g7,g8,g9,g10,g11,g12,g13]) rfl ⟨⟨aK,cK,rfl,HR.out.fine HE9.out.Ae.2 HZ.out,(fun ad h=>.inl h),fun _=>⟨rfl,rfl⟩⟩,HE9.out.Ae⟩
  ·have hres:H6 M f=Ci f (j:Int) 4:=by unfold H6;rw[hat,hj,hcan];rfl
   rw[hres]
   rw[hcan] at HHd
   obtain⟨of,hof⟩:=frObj f aK cK
   obtain⟨oz,hoz⟩:∃ o:Obj,o=Ac:=⟨_,rfl⟩
   have HE:Hid (Lk Xb w ((w.alloc of).alloc oz) B lo (some ⟨gS,0,none⟩) aH aF aL cS cH cF cL M f aK cK):=Lk.first m f aK cK hof hoz
   obtain⟨q0,q1,q2,q3,q4,-,-,-,-,-,qs⟩:=boxf HE.out.m.box
   obtain⟨f0,f1,f2,f3,f4,f5,f6,f7,f8,f9,f10,f11,f12,f13,ff,fs⟩:=A8 HE.out.fb
   unfold Ac at hoz
   clear m hres hst hat h1 hc1 hn1 hcur hns hM hf r hcan hM' hresM hz
   go_enter Tryz.func167,Tryz.ntmps167
   go_wp2_with fail
   rw[<- hof,<- hoz]
   generalize (w.alloc of).alloc oz=W0 at *
   subst hof hoz
   refine(HSt.out W0 HE.out.m).mono ?_
   rintro e w1 ⟨rfl,hb1⟩
   have HE1:Hid (Lk Xb w w1 B lo (some ⟨gS,0,none⟩) aH aF aL cS cH cF cL M f aK cK):=HE.out.below hb1
   clear HE hb1
   clear q0 q1 q2 q3 q4 qs f0 f1 f2 f3 f4 f5 f6 f7 f8 f9 f10 f11 f12 f13 ff fs
   obtain⟨q0,q1,q2,q3,q4,-,-,-,-,-,qs⟩:=boxf HE1.out.m.box
   obtain⟨f0,f1,f2,f3,f4,f5,f6,f7,f8,f9,f10,f11,f12,f13,ff,fs⟩:=A8 HE1.out.fb
   go_wp2_with fail
   refine(HHd.out w1 (Foot B (some ⟨gS,0,none⟩) aH aF aL) ⟨_,_,_,_,_,_,_,_,HE1.out.m,fun _ h=>h⟩).mono ?_
   rintro e w2 ⟨rfl,hh2,hf2⟩
   have HE2:Hid (Lk2 Xb w w2 (Foot B (some ⟨gS,0,none⟩) aH aF aL) B lo M' f aK cK):=HE1.out.after hh2 hf2
   clear HE1 hh2 hf2
   clear q0 q1 q2 q3 q4 qs f0 f1 f2 f3 f4 f5 f6 f7 f8 f9 f10 f11 f12 f13 ff fs
   obtain⟨f0,f1,f2,f3,f4,f5,f6,f7,f8,f9,f10,f11,f12,f13,ff,fs⟩:=A8 HE2.out.fb
   go_wp2_with fail
   have HE3:Hid (Lk2 Xb w _ (Foot B (some ⟨gS,0,none⟩) aH aF aL) B lo M' { f with slot:=(j:Int) } aK cK):=HE2.out.store 9 (O J (j:Int)) { f with slot:=(j:Int) } rfl
   clear HE2
   refine(Bv { f with slot:=(j:Int) } 4 aK cK _).mono ?_
   rintro e w9 ⟨rfl,hb9⟩
   have HE9:Hid (Lk2 Xb w w9 (Foot B (some ⟨gS,0,none⟩) aH aF aL) B lo M' { f with slot:=(j:Int) } aK cK):=HE3.out.below hb9
   clear HE3 hb9
   clear f0 f1 f2 f3 f4 f5 f6 f7 f8 f9 f10 f11 f12 f13 ff fs
   obtain⟨g0,g1,g2,g3,g4,g5,g6,g7,g8,g9,g10,g11,g12,g13,gf,gs⟩:=A8 HE9.out.zb
   go_wp2
   refine bodyPost_ret (v:=.agg #[O J (Ci f (j:Int) 4).c.kind,O J (Ci f (j:Int) 4).c.a,O J (Ci f (j:Int) 4).c.b,O J (Ci f (j:Int) 4).c.time,O J (Ci f (j:Int) 4).c.bk,O J (Ci f (j:Int) 4).c.slot,O J (Ci f (j:Int) 4).pl,O J (Ci f (j:Int) 4).cur,O J (Ci f (j:Int) 4).prev,O J (Ci f (j:Int) 4).slot,O J (Ci f (j:Int) 4).n,Y aK (Ci f (j:Int) 4).keys.length cK,.bool (Ci f (j:Int) 4).done,O J (Ci f (j:Int) 4).e]) (by simp[results,Tryz.results167,go_sem,Ci,toF,g0,g1,g2,g3,g4,g5,g6,g7,g8,g9,g10,g11,g12,g13]) rfl ⟨⟨aK,cK,rfl,HR.out.fine HE9.out.Ae.2 HZ.out,(fun ad h=>.inl h),fun _=>⟨rfl,rfl⟩⟩,HE9.out.Ae⟩
 ·have hat0:isAt M f=false:=by simpa using hat
  have hres:H6 M f=toF f 0:=by unfold H6;rw[hat0];rfl
  have hresM:I8 M f=M:=by unfold I8;rw[if_neg hat]
  rw[hres,hresM]
  have HSt:Hid (∀ (W:World),Mine Xb W B lo aS aH aF aL cS cH cF cL M->Calls Tryz.prog 200 #[.pointer (some ⟨B,0,none⟩),.agg #[O J f.c.kind,O J f.c.a,O J f.c.b,O J f.c.time,O J f.c.bk,O J f.c.slot,O J f.pl,O J f.cur,O J f.prev,O J f.slot,O J f.n,Y aK f.keys.length cK,.bool f.done,O J f.e]] W fun e w'=>e=.returned (.tuple #[O J (stN f),.bool false])/\Below W.heap.size W w'):=fun W m'=>by
   have:=Ba M f B _ aH aF aL cS cH cF cL aK cK W m'.box hc1 hn1
   rwa [hat0] at this
  obtain⟨of,hof⟩:=frObj f aK cK
  obtain⟨oz,hoz⟩:∃ o:Obj,o=Ac:=⟨_,rfl⟩
  have HE:Hid (Lk Xb w ((w.alloc of).alloc oz) B lo aS aH aF aL cS cH cF cL M f aK cK):=Lk.first m f aK cK hof hoz
  obtain⟨q0,q1,q2,q3,q4,-,-,-,-,-,qs⟩:=boxf HE.out.m.box
  obtain⟨f0,f1,f2,f3,f4,f5,f6,f7,f8,f9,f10,f11,f12,f13,ff,fs⟩:=A8 HE.out.fb
  unfold Ac at hoz
  clear m hres hresM hat hat0 hc1 hn1 hcur hns hM hf r hz
  go_enter Tryz.func167,Tryz.ntmps167
  go_wp2_with fail
  rw[<- hof,<- hoz]
  generalize (w.alloc of).alloc oz=W0 at *
  subst hof hoz
  refine(HSt.out W0 HE.out.m).mono ?_
  rintro e w1 ⟨rfl,hb1⟩
  have HE1:Hid (Lk Xb w w1 B lo aS aH aF aL cS cH cF cL M f aK cK):=HE.out.below hb1
  clear HE hb1
  clear q0 q1 q2 q3 q4 qs f0 f1 f2 f3 f4 f5 f6 f7 f8 f9 f10 f11 f12 f13 ff fs
  obtain⟨q0,q1,q2,q3,q4,-,-,-,-,-,qs⟩:=boxf HE1.out.m.box
  obtain⟨f0,f1,f2,f3,f4,f5,f6,f7,f8,f9,f10,f11,f12,f13,ff,fs⟩:=A8 HE1.out.fb
  go_wp2_with fail
  refine(Bv f 0 aK cK _).mono ?_
  rintro e w9 ⟨rfl,hb9⟩
  have HE9:Hid (Lk Xb w w9 B lo aS aH aF aL cS cH cF cL M f aK cK):=HE1.out.below hb9
  clear HE1 hb9
  clear q0 q1 q2 q3 q4 qs f0 f1 f2 f3 f4 f5 f6 f7 f8 f9 f10 f11 f12 f13 ff fs
  obtain⟨g0,g1,g2,g3,g4,g5,g6,g7,g8,g9,g10,g11,g12,g13,gf,gs⟩:=A8 HE9.out.zb
  go_wp2
  refine bodyPost_ret (v:=.agg #[O J (toF f 0).c.kind,O J (toF f 0).c.a,O J (toF f 0).c.b,O J (toF f 0).c.time,O J (toF f 0).c.bk,O J (toF f 0).c.slot,O J (toF f 0).pl,O J (toF f 0).cur,O J (toF f 0).prev,O J (toF f 0).slot,O J (toF f 0).n,Y aK (toF f 0).keys.length cK,.bool (toF f 0).done,O J (toF f 0).e]) (by simp[results,Tryz.results167,go_sem,toF,g0,g1,g2,g3,g4,g5,g6,g7,g8,g9,g10,g11,g12,g13]) rfl ⟨⟨aK,cK,rfl,HR.out.below (Gg HE9.out.bl),(fun ad h=>.inl h),fun _=>⟨rfl,rfl⟩⟩,HE9.out.Ae⟩
end
end Go.Proofs.YthhgoenomehobaaGreat.mm
