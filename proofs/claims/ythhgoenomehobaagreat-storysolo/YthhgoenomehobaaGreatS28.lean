/- Parts. -/
import Derived.Test.YthhgoenomehobaaGreatS27
import Derived.Test.YthhgoenomehobaaGreatS10
import Derived.Test.YthhgoenomehobaaGreatS01
namespace Go.Proofs.YthhgoenomehobaaGreat.mm
set_option maxRecDepth 100000
set_option linter.unusedVariables false
open Go.Value renaming int → O, slice → Y
open Go.IntKind renaming i64 → J
section
open Go.ChangeShapes Go.WideShapes Go.ChangeAt Go.RowKit Go.Joins
variable {Xb:Ex}
theorem Pz{w w':World}{B lo:Nat}{aS aH aF aL:Option Addr}{cS cH cF cL:Nat}{M:Mm}(m:Mine Xb w B lo aS aH aF aL cS cH cF cL M)(hb:Below w.heap.size w w'):Has Xb w' B lo (Up w (A8 B aS aH aF aL)) M/\Fine w w' (A8 B aS aH aF aL) :=
 ⟨⟨_,_,_,_,_,_,_,_,m.below hb,fun k hk=>.inl hk⟩,.of_below _ hb⟩
theorem part0(M:Mm)(f:Fr)(B lo:Nat)(aS aH aF aL:Option Addr)(cS cH cF cL:Nat)(aK:Option Addr)(cK:Nat)(w:World)
  (m:Mine Xb w B lo aS aH aF aL cS cH cF cL M) (hM:Ok M) (hf:Fit M f) (r:Ag w aK cK f.keys) (hz:∀ ad,aK=some ad->¬ A8 B aS aH aF aL ad.block) (hp:f.pl=0) :
  Calls Tryz.prog 164 #[.pointer (some ⟨B,0,none⟩),.agg #[O J f.c.kind,O J f.c.a,O J f.c.b,O J f.c.time,O J f.c.bk,O J f.c.slot,O J f.pl,O J f.cur,O J f.prev,O J f.slot,O J f.n,Y aK f.keys.length cK,.bool f.done,O J f.e]] w fun e w'=>Ret w w' e (lkF M f) aK cK/\Has Xb w' B lo (Up w (A8 B aS aH aF aL)) (lkM M f)/\Fine w w' (A8 B aS aH aF aL):=by
 rw[b9c hp,Dv (by omega)]
 refine(a5y M f B lo aS aH aF aL cS cH cF cL aK cK w m hM hf).mono ?_
 rintro e w' ⟨rfl,hb⟩
 exact⟨⟨aK,cK,rfl,r.below hb,(fun ad h=>.inl h),fun _=>⟨rfl,rfl⟩⟩,Pz m hb⟩
theorem part1(M:Mm)(f:Fr)(B lo:Nat)(aS aH aF aL:Option Addr)(cS cH cF cL:Nat)(aK:Option Addr)(cK:Nat)(w:World)
  (m:Mine Xb w B lo aS aH aF aL cS cH cF cL M) (hM:Ok M) (hf:Fit M f) (r:Ag w aK cK f.keys) (hz:∀ ad,aK=some ad->¬ A8 B aS aH aF aL ad.block) (hp:f.pl=1) :
  Calls Tryz.prog 165 #[.pointer (some ⟨B,0,none⟩),.agg #[O J f.c.kind,O J f.c.a,O J f.c.b,O J f.c.time,O J f.c.bk,O J f.c.slot,O J f.pl,O J f.cur,O J f.prev,O J f.slot,O J f.n,Y aK f.keys.length cK,.bool f.done,O J f.e]] w fun e w'=>Ret w w' e (lkF M f) aK cK/\Has Xb w' B lo (Up w (A8 B aS aH aF aL)) (lkM M f)/\Fine w w' (A8 B aS aH aF aL):=by
 rw[b1k hp,Dv (by omega)]
 refine(b6j M f B lo aS aH aF aL cS cH cF cL aK cK w m hM hf r).mono ?_
 rintro e w' ⟨h,hb⟩
 exact⟨h,Pz m hb⟩
theorem part2(M:Mm)(f:Fr)(B lo:Nat)(aS aH aF aL:Option Addr)(cS cH cF cL:Nat)(aK:Option Addr)(cK:Nat)(w:World)
  (m:Mine Xb w B lo aS aH aF aL cS cH cF cL M) (hM:Ok M) (hf:Fit M f) (r:Ag w aK cK f.keys) (hz:∀ ad,aK=some ad->¬ A8 B aS aH aF aL ad.block) (hp:f.pl=2) :
  Calls Tryz.prog 166 #[.pointer (some ⟨B,0,none⟩),.agg #[O J f.c.kind,O J f.c.a,O J f.c.b,O J f.c.time,O J f.c.bk,O J f.c.slot,O J f.pl,O J f.cur,O J f.prev,O J f.slot,O J f.n,Y aK f.keys.length cK,.bool f.done,O J f.e]] w fun e w'=>Ret w w' e (lkF M f) aK cK/\Has Xb w' B lo (Up w (A8 B aS aH aF aL)) (lkM M f)/\Fine w w' (A8 B aS aH aF aL):=by
 rw[b5r hp,Dv (by omega)]
 refine(b1v M f B lo aS aH aF aL cS cH cF cL aK cK w m hM hf).mono ?_
 rintro e w' ⟨rfl,hb⟩
 refine⟨⟨aK,cK,rfl,?_,(fun ad h=>.inl h),fun _=>⟨rfl,rfl⟩⟩,Pz m hb⟩
 have:(Fa M f).keys=f.keys:=by rw[<- b5r hp];exact Jj M f
 rw[this]
 exact r.below hb
theorem part3(M:Mm)(f:Fr)(B lo:Nat)(aS aH aF aL:Option Addr)(cS cH cF cL:Nat)(aK:Option Addr)(cK:Nat)(w:World)
  (m:Mine Xb w B lo aS aH aF aL cS cH cF cL M) (hM:Ok M) (hf:Fit M f) (r:Ag w aK cK f.keys) (hz:∀ ad,aK=some ad->¬ A8 B aS aH aF aL ad.block) (hp:f.pl=3) :
  Calls Tryz.prog 167 #[.pointer (some ⟨B,0,none⟩),.agg #[O J f.c.kind,O J f.c.a,O J f.c.b,O J f.c.time,O J f.c.bk,O J f.c.slot,O J f.pl,O J f.cur,O J f.prev,O J f.slot,O J f.n,Y aK f.keys.length cK,.bool f.done,O J f.e]] w fun e w'=>Ret w w' e (lkF M f) aK cK/\Has Xb w' B lo (Up w (A8 B aS aH aF aL)) (lkM M f)/\Fine w w' (A8 B aS aH aF aL):=by
 rw[b9d hp,b9g hp]
 exact a7a M f B lo aS aH aF aL cS cH cF cL aK cK w m hM hf r hz
theorem part4(M:Mm)(f:Fr)(B lo:Nat)(aS aH aF aL:Option Addr)(cS cH cF cL:Nat)(aK:Option Addr)(cK:Nat)(w:World)
  (m:Mine Xb w B lo aS aH aF aL cS cH cF cL M) (hM:Ok M) (hf:Fit M f) (r:Ag w aK cK f.keys) (hz:∀ ad,aK=some ad->¬ A8 B aS aH aF aL ad.block) (hp:f.pl=4) :
  Calls Tryz.prog 168 #[.pointer (some ⟨B,0,none⟩),.agg #[O J f.c.kind,O J f.c.a,O J f.c.b,O J f.c.time,O J f.c.bk,O J f.c.slot,O J f.pl,O J f.cur,O J f.prev,O J f.slot,O J f.n,Y aK f.keys.length cK,.bool f.done,O J f.e]] w fun e w'=>Ret w w' e (lkF M f) aK cK/\Has Xb w' B lo (Up w (A8 B aS aH aF aL)) (lkM M f)/\Fine w w' (A8 B aS aH aF aL):=by
 rw[b9e hp,Dv (by omega)]
 refine(a8g M f B lo aS aH aF aL cS cH cF cL aK cK w m hM hf r).mono ?_
 rintro e w' ⟨h,hb⟩
 exact⟨h,Pz m hb⟩
theorem part5(M:Mm)(f:Fr)(B lo:Nat)(aS aH aF aL:Option Addr)(cS cH cF cL:Nat)(aK:Option Addr)(cK:Nat)(w:World)
  (m:Mine Xb w B lo aS aH aF aL cS cH cF cL M) (hM:Ok M) (hf:Fit M f) (r:Ag w aK cK f.keys) (hz:∀ ad,aK=some ad->¬ A8 B aS aH aF aL ad.block) (hp:f.pl=5) :
  Calls Tryz.prog 169 #[.pointer (some ⟨B,0,none⟩),.agg #[O J f.c.kind,O J f.c.a,O J f.c.b,O J f.c.time,O J f.c.bk,O J f.c.slot,O J f.pl,O J f.cur,O J f.prev,O J f.slot,O J f.n,Y aK f.keys.length cK,.bool f.done,O J f.e]] w fun e w'=>Ret w w' e (lkF M f) aK cK/\Has Xb w' B lo (Up w (A8 B aS aH aF aL)) (lkM M f)/\Fine w w' (A8 B aS aH aF aL):=by
 rw[lkF5 hp,lkM5 hp]
 exact a4d M f B lo aS aH aF aL cS cH cF cL aK cK w m hM r hz
theorem part6(M:Mm)(f:Fr)(B lo:Nat)(aS aH aF aL:Option Addr)(cS cH cF cL:Nat)(aK:Option Addr)(cK:Nat)(w:World)
  (m:Mine Xb w B lo aS aH aF aL cS cH cF cL M) (hM:Ok M) (hf:Fit M f) (r:Ag w aK cK f.keys) (hz:∀ ad,aK=some ad->¬ A8 B aS aH aF aL ad.block) (hp:f.pl=6) :
  Calls Tryz.prog 170 #[.pointer (some ⟨B,0,none⟩),.agg #[O J f.c.kind,O J f.c.a,O J f.c.b,O J f.c.time,O J f.c.bk,O J f.c.slot,O J f.pl,O J f.cur,O J f.prev,O J f.slot,O J f.n,Y aK f.keys.length cK,.bool f.done,O J f.e]] w fun e w'=>Ret w w' e (lkF M f) aK cK/\Has Xb w' B lo (Up w (A8 B aS aH aF aL)) (lkM M f)/\Fine w w' (A8 B aS aH aF aL):=by
 rw[b9f hp,b9h hp]
 exact a7y M f B lo aS aH aF aL cS cH cF cL aK cK w m hM r hz
theorem Ld{w w1:World}{n:Nat}{a aK:Option Addr}{c cK:Nat}{l:List (Int × Int)}{v0 v1 v2 v3 v4 v5 v6 v7 v8 v9 v10 v11 v12 v13:Value}(hn:n=w.heap.size)(r:Ag w1 a c l)(r0:Ag w aK cK l)(hl:∀ ad,a=some ad->aK=some ad\/n+2<=ad.block) :
  Ag ((((((((((((((w1.setCell ⟨n+1,0,none⟩ v0).setCell ⟨n+1,1,none⟩ v1).setCell ⟨n+1,2,none⟩ v2).setCell ⟨n+1,3,none⟩ v3).setCell ⟨n+1,4,none⟩ v4).setCell ⟨n+1,5,none⟩ v5).setCell ⟨n+1,6,none⟩ v6).setCell ⟨n+1,7,none⟩ v7).setCell ⟨n+1,8,none⟩ v8).setCell ⟨n+1,9,none⟩ v9).setCell ⟨n+1,10,none⟩ v10).setCell ⟨n+1,11,none⟩ v11).setCell ⟨n+1,12,none⟩ v12).setCell ⟨n+1,13,none⟩ v13) a c l:=by
 refine⟨r.le,r.max,r.nil,?_⟩
 by_cases h0:l.length=0
 ·exact .inl h0
 rcases r.at_ with h|⟨b,o,e,hc⟩
 ·exact absurd h h0
 ·refine .inr ⟨b,o,e,fun i hi=>?_⟩
  have hb:b≠n+1:=by
   rcases hl _ e with h|h
   ·rcases r0.at_ with h'|⟨b',o',e',hc'⟩
    ·exact absurd h' h0
    ·have:=cell_lt (hc' 0 (by omega)).1
     rw[h] at e'
     injection e' with e'
     injection e' with e'
     omega
   ·dsimp only at h;omega
  have q:∀ x,(((((((((((((((w1.setCell ⟨n+1,0,none⟩ v0).setCell ⟨n+1,1,none⟩ v1).setCell ⟨n+1,2,none⟩ v2).setCell ⟨n+1,3,none⟩ v3).setCell ⟨n+1,4,none⟩ v4).setCell ⟨n+1,5,none⟩ v5).setCell ⟨n+1,6,none⟩ v6).setCell ⟨n+1,7,none⟩ v7).setCell ⟨n+1,8,none⟩ v8).setCell ⟨n+1,9,none⟩ v9).setCell ⟨n+1,10,none⟩ v10).setCell ⟨n+1,11,none⟩ v11).setCell ⟨n+1,12,none⟩ v12).setCell ⟨n+1,13,none⟩ v13)).cell? ⟨b,x,none⟩=w1.cell? ⟨b,x,none⟩:=fun x=>World.cell?_of_block (a:=⟨b,x,none⟩) (by
   dsimp only
   repeat rw[Below.heap_setCell _ _ _ _ (by dsimp only;exact hb)])
  rw[q,q]
  exact hc i hi
set_option maxHeartbeats 1600000 in
theorem step0(M M':Mm)(g:Fr)(c:Cl)(cur prev slot nn ee:Int)(keys:List (Int × Int))(B lo:Nat)(aS aH aF aL:Option Addr)(cS cH cF cL:Nat)(aK:Option Addr)(cK:Nat)(w:World)
  (m:Mine Xb w B lo aS aH aF aL cS cH cF cL M) (HR:Hid (Ag w aK cK keys)) (HKy:Hid (g.keys=keys))
  (HP:Hid (∀ (W:World),Mine Xb W B lo aS aH aF aL cS cH cF cL M->Ag W aK cK keys->Calls Tryz.prog 164 #[.pointer (some ⟨B,0,none⟩),.agg #[O J c.kind,O J c.a,O J c.b,O J c.time,O J c.bk,O J c.slot,O J 0,O J cur,O J prev,O J slot,O J nn,Y aK keys.length cK,.bool false,O J ee]] W fun e w'=>Ret W w' e g aK cK/\Has Xb w' B lo (Up W (A8 B aS aH aF aL)) M'/\Fine W w' (A8 B aS aH aF aL))) :
  Calls Tryz.prog 158 #[.pointer (some ⟨B,0,none⟩),.agg #[O J c.kind,O J c.a,O J c.b,O J c.time,O J c.bk,O J c.slot,O J 0,O J cur,O J prev,O J slot,O J nn,Y aK keys.length cK,.bool false,O J ee]] w fun e w'=>Ret w w' e g aK cK/\Has Xb w' B lo (Up w (A8 B aS aH aF aL)) M'/\Fine w w' (A8 B aS aH aF aL):=by
 obtain⟨of,hof⟩:∃ o:Obj,o=.cells #[O J c.kind,O J c.a,O J c.b,O J c.time,O J c.bk,O J c.slot,O J 0,O J cur,O J prev,O J slot,O J nn,Y aK keys.length cK,.bool false,O J ee] 47:=⟨_,rfl⟩
 obtain⟨oz,hoz⟩:∃ o:Obj,o=Ac:=⟨_,rfl⟩
 have HE:Hid (Lk Xb w ((w.alloc of).alloc oz) B lo aS aH aF aL cS cH cF cL M ⟨c,0,cur,prev,slot,nn,keys,false,ee⟩ aK cK):=Lk.first m ⟨c,0,cur,prev,slot,nn,keys,false,ee⟩ aK cK hof hoz
 obtain⟨f0,f1,f2,f3,f4,f5,f6,f7,f8,f9,f10,f11,f12,f13,ff,fs⟩:=Aa (show ((w.alloc of).alloc oz).heap[w.heap.size]?=some (.cells #[O J c.kind,O J c.a,O J c.b,O J c.time,O J c.bk,O J c.slot,O J 0,O J cur,O J prev,O J slot,O J nn,Y aK keys.length cK,.bool false,O J ee] 47 (0,0)) from HE.out.fb)
 unfold Ac at hoz
 clear m
 go_enter Tryz.func158,Tryz.ntmps158
 go_wp2_with fail
 rw[<- hof,<- hoz]
 generalize (w.alloc of).alloc oz=W0 at *
 subst hof hoz
 have HE1:Hid (Lk Xb w W0 B lo aS aH aF aL cS cH cF cL M ⟨c,0,cur,prev,slot,nn,keys,false,ee⟩ aK cK):=HE.out
 clear HE
 clear f0 f1 f2 f3 f4 f5 f6 f7 f8 f9 f10 f11 f12 f13 ff fs
 refine(HP.out _ HE1.out.m (HR.out.below HE1.out.bl)).mono ?_
 rintro e w2 ⟨⟨a2,c2,rfl,hr2,hl2,hd2⟩,hh2,hf2⟩
 have HK2:Hid (Ag w2 a2 c2 keys/\∀ ad,a2=some ad->aK=some ad\/w.heap.size+2<=ad.block):=⟨HKy.out ▸ hr2,fun ad h=>(hl2 ad h).imp id (fun h'=>Nat.le_trans (lt_of_block HE1.out.zb) h')⟩
 have HD2:Hid (g.done=false->a2=aK/\c2=cK):=hd2
 have HE2:Hid (Lk2 Xb w w2 (A8 B aS aH aF aL) B lo M' ⟨c,0,cur,prev,slot,nn,keys,false,ee⟩ aK cK):=HE1.out.after hh2 hf2
 clear HE1 hh2 hf2 hr2 hl2 hd2
 obtain⟨g0,g1,g2,g3,g4,g5,g6,g7,g8,g9,g10,g11,g12,g13,gf,gs⟩:=Aa HE2.out.zb
 go_wp2
 refine bodyPost_ret (v:=.agg #[O J g.c.kind,O J g.c.a,O J g.c.b,O J g.c.time,O J g.c.bk,O J g.c.slot,O J g.pl,O J g.cur,O J g.prev,O J g.slot,O J g.n,Y a2 g.keys.length c2,.bool g.done,O J g.e]) (by simp[results,Tryz.results158,go_sem,g0,g1,g2,g3,g4,g5,g6,g7,g8,g9,g10,g11,g12,g13]) rfl ⟨⟨a2,c2,rfl,by rw[HKy.out];exact Ld rfl HK2.out.1 HR.out HK2.out.2,(fun ad h=>(HK2.out.2 ad h).imp id (fun h'=>by omega)),HD2.out⟩,HE2.out.Ah⟩
set_option maxHeartbeats 1600000 in
theorem step1(M M':Mm)(g:Fr)(c:Cl)(cur prev slot nn ee:Int)(keys:List (Int × Int))(B lo:Nat)(aS aH aF aL:Option Addr)(cS cH cF cL:Nat)(aK:Option Addr)(cK:Nat)(w:World)
  (m:Mine Xb w B lo aS aH aF aL cS cH cF cL M) (HR:Hid (Ag w aK cK keys)) (HKy:Hid (g.keys=keys))
  (HP:Hid (∀ (W:World),Mine Xb W B lo aS aH aF aL cS cH cF cL M->Ag W aK cK keys->Calls Tryz.prog 165 #[.pointer (some ⟨B,0,none⟩),.agg #[O J c.kind,O J c.a,O J c.b,O J c.time,O J c.bk,O J c.slot,O J 1,O J cur,O J prev,O J slot,O J nn,Y aK keys.length cK,.bool false,O J ee]] W fun e w'=>Ret W w' e g aK cK/\Has Xb w' B lo (Up W (A8 B aS aH aF aL)) M'/\Fine W w' (A8 B aS aH aF aL))) :
  Calls Tryz.prog 158 #[.pointer (some ⟨B,0,none⟩),.agg #[O J c.kind,O J c.a,O J c.b,O J c.time,O J c.bk,O J c.slot,O J 1,O J cur,O J prev,O J slot,O J nn,Y aK keys.length cK,.bool false,O J ee]] w fun e w'=>Ret w w' e g aK cK/\Has Xb w' B lo (Up w (A8 B aS aH aF aL)) M'/\Fine w w' (A8 B aS aH aF aL):=by
 obtain⟨of,hof⟩:∃ o:Obj,o=.cells #[O J c.kind,O J c.a,O J c.b,O J c.time,O J c.bk,O J c.slot,O J 1,O J cur,O J prev,O J slot,O J nn,Y aK keys.length cK,.bool false,O J ee] 47:=⟨_,rfl⟩
 obtain⟨oz,hoz⟩:∃ o:Obj,o=Ac:=⟨_,rfl⟩
 have HE:Hid (Lk Xb w ((w.alloc of).alloc oz) B lo aS aH aF aL cS cH cF cL M ⟨c,1,cur,prev,slot,nn,keys,false,ee⟩ aK cK):=Lk.first m ⟨c,1,cur,prev,slot,nn,keys,false,ee⟩ aK cK hof hoz
 obtain⟨f0,f1,f2,f3,f4,f5,f6,f7,f8,f9,f10,f11,f12,f13,ff,fs⟩:=Aa (show ((w.alloc of).alloc oz).heap[w.heap.size]?=some (.cells #[O J c.kind,O J c.a,O J c.b,O J c.time,O J c.bk,O J c.slot,O J 1,O J cur,O J prev,O J slot,O J nn,Y aK keys.length cK,.bool false,O J ee] 47 (0,0)) from HE.out.fb)
 unfold Ac at hoz
 clear m
 go_enter Tryz.func158,Tryz.ntmps158
 go_wp2_with fail
 rw[<- hof,<- hoz]
 generalize (w.alloc of).alloc oz=W0 at *
 subst hof hoz
 have HE1:Hid (Lk Xb w W0 B lo aS aH aF aL cS cH cF cL M ⟨c,1,cur,prev,slot,nn,keys,false,ee⟩ aK cK):=HE.out
 clear HE
 clear f0 f1 f2 f3 f4 f5 f6 f7 f8 f9 f10 f11 f12 f13 ff fs
 refine(HP.out _ HE1.out.m (HR.out.below HE1.out.bl)).mono ?_
 rintro e w2 ⟨⟨a2,c2,rfl,hr2,hl2,hd2⟩,hh2,hf2⟩
 have HK2:Hid (Ag w2 a2 c2 keys/\∀ ad,a2=some ad->aK=some ad\/w.heap.size+2<=ad.block):=⟨HKy.out ▸ hr2,fun ad h=>(hl2 ad h).imp id (fun h'=>Nat.le_trans (lt_of_block HE1.out.zb) h')⟩
 have HD2:Hid (g.done=false->a2=aK/\c2=cK):=hd2
 have HE2:Hid (Lk2 Xb w w2 (A8 B aS aH aF aL) B lo M' ⟨c,1,cur,prev,slot,nn,keys,false,ee⟩ aK cK):=HE1.out.after hh2 hf2
 clear HE1 hh2 hf2 hr2 hl2 hd2
 obtain⟨g0,g1,g2,g3,g4,g5,g6,g7,g8,g9,g10,g11,g12,g13,gf,gs⟩:=Aa HE2.out.zb
 go_wp2
 refine bodyPost_ret (v:=.agg #[O J g.c.kind,O J g.c.a,O J g.c.b,O J g.c.time,O J g.c.bk,O J g.c.slot,O J g.pl,O J g.cur,O J g.prev,O J g.slot,O J g.n,Y a2 g.keys.length c2,.bool g.done,O J g.e]) (by simp[results,Tryz.results158,go_sem,g0,g1,g2,g3,g4,g5,g6,g7,g8,g9,g10,g11,g12,g13]) rfl ⟨⟨a2,c2,rfl,by rw[HKy.out];exact Ld rfl HK2.out.1 HR.out HK2.out.2,(fun ad h=>(HK2.out.2 ad h).imp id (fun h'=>by omega)),HD2.out⟩,HE2.out.Ah⟩
set_option maxHeartbeats 1600000 in
theorem step2(M M':Mm)(g:Fr)(c:Cl)(cur prev slot nn ee:Int)(keys:List (Int × Int))(B lo:Nat)(aS aH aF aL:Option Addr)(cS cH cF cL:Nat)(aK:Option Addr)(cK:Nat)(w:World)
  (m:Mine Xb w B lo aS aH aF aL cS cH cF cL M) (HR:Hid (Ag w aK cK keys)) (HKy:Hid (g.keys=keys))
  (HP:Hid (∀ (W:World),Mine Xb W B lo aS aH aF aL cS cH cF cL M->Ag W aK cK keys->Calls Tryz.prog 166 #[.pointer (some ⟨B,0,none⟩),.agg #[O J c.kind,O J c.a,O J c.b,O J c.time,O J c.bk,O J c.slot,O J 2,O J cur,O J prev,O J slot,O J nn,Y aK keys.length cK,.bool false,O J ee]] W fun e w'=>Ret W w' e g aK cK/\Has Xb w' B lo (Up W (A8 B aS aH aF aL)) M'/\Fine W w' (A8 B aS aH aF aL))) :
  Calls Tryz.prog 158 #[.pointer (some ⟨B,0,none⟩),.agg #[O J c.kind,O J c.a,O J c.b,O J c.time,O J c.bk,O J c.slot,O J 2,O J cur,O J prev,O J slot,O J nn,Y aK keys.length cK,.bool false,O J ee]] w fun e w'=>Ret w w' e g aK cK/\Has Xb w' B lo (Up w (A8 B aS aH aF aL)) M'/\Fine w w' (A8 B aS aH aF aL):=by
 obtain⟨of,hof⟩:∃ o:Obj,o=.cells #[O J c.kind,O J c.a,O J c.b,O J c.time,O J c.bk,O J c.slot,O J 2,O J cur,O J prev,O J slot,O J nn,Y aK keys.length cK,.bool false,O J ee] 47:=⟨_,rfl⟩
 obtain⟨oz,hoz⟩:∃ o:Obj,o=Ac:=⟨_,rfl⟩
 have HE:Hid (Lk Xb w ((w.alloc of).alloc oz) B lo aS aH aF aL cS cH cF cL M ⟨c,2,cur,prev,slot,nn,keys,false,ee⟩ aK cK):=Lk.first m ⟨c,2,cur,prev,slot,nn,keys,false,ee⟩ aK cK hof hoz
 obtain⟨f0,f1,f2,f3,f4,f5,f6,f7,f8,f9,f10,f11,f12,f13,ff,fs⟩:=Aa (show ((w.alloc of).alloc oz).heap[w.heap.size]?=some (.cells #[O J c.kind,O J c.a,O J c.b,O J c.time,O J c.bk,O J c.slot,O J 2,O J cur,O J prev,O J slot,O J nn,Y aK keys.length cK,.bool false,O J ee] 47 (0,0)) from HE.out.fb)
 unfold Ac at hoz
 clear m
 go_enter Tryz.func158,Tryz.ntmps158
 go_wp2_with fail
 rw[<- hof,<- hoz]
 generalize (w.alloc of).alloc oz=W0 at *
 subst hof hoz
 have HE1:Hid (Lk Xb w W0 B lo aS aH aF aL cS cH cF cL M ⟨c,2,cur,prev,slot,nn,keys,false,ee⟩ aK cK):=HE.out
 clear HE
 clear f0 f1 f2 f3 f4 f5 f6 f7 f8 f9 f10 f11 f12 f13 ff fs
 refine(HP.out _ HE1.out.m (HR.out.below HE1.out.bl)).mono ?_
 rintro e w2 ⟨⟨a2,c2,rfl,hr2,hl2,hd2⟩,hh2,hf2⟩
 have HK2:Hid (Ag w2 a2 c2 keys/\∀ ad,a2=some ad->aK=some ad\/w.heap.size+2<=ad.block):=⟨HKy.out ▸ hr2,fun ad h=>(hl2 ad h).imp id (fun h'=>Nat.le_trans (lt_of_block HE1.out.zb) h')⟩
 have HD2:Hid (g.done=false->a2=aK/\c2=cK):=hd2
 have HE2:Hid (Lk2 Xb w w2 (A8 B aS aH aF aL) B lo M' ⟨c,2,cur,prev,slot,nn,keys,false,ee⟩ aK cK):=HE1.out.after hh2 hf2
 clear HE1 hh2 hf2 hr2 hl2 hd2
 obtain⟨g0,g1,g2,g3,g4,g5,g6,g7,g8,g9,g10,g11,g12,g13,gf,gs⟩:=Aa HE2.out.zb
 go_wp2
 refine bodyPost_ret (v:=.agg #[O J g.c.kind,O J g.c.a,O J g.c.b,O J g.c.time,O J g.c.bk,O J g.c.slot,O J g.pl,O J g.cur,O J g.prev,O J g.slot,O J g.n,Y a2 g.keys.length c2,.bool g.done,O J g.e]) (by simp[results,Tryz.results158,go_sem,g0,g1,g2,g3,g4,g5,g6,g7,g8,g9,g10,g11,g12,g13]) rfl ⟨⟨a2,c2,rfl,by rw[HKy.out];exact Ld rfl HK2.out.1 HR.out HK2.out.2,(fun ad h=>(HK2.out.2 ad h).imp id (fun h'=>by omega)),HD2.out⟩,HE2.out.Ah⟩
set_option maxHeartbeats 1600000 in
theorem step3(M M':Mm)(g:Fr)(c:Cl)(cur prev slot nn ee:Int)(keys:List (Int × Int))(B lo:Nat)(aS aH aF aL:Option Addr)(cS cH cF cL:Nat)(aK:Option Addr)(cK:Nat)(w:World)
  (m:Mine Xb w B lo aS aH aF aL cS cH cF cL M) (HR:Hid (Ag w aK cK keys)) (HKy:Hid (g.keys=keys))
  (HP:Hid (∀ (W:World),Mine Xb W B lo aS aH aF aL cS cH cF cL M->Ag W aK cK keys->Calls Tryz.prog 167 #[.pointer (some ⟨B,0,none⟩),.agg #[O J c.kind,O J c.a,O J c.b,O J c.time,O J c.bk,O J c.slot,O J 3,O J cur,O J prev,O J slot,O J nn,Y aK keys.length cK,.bool false,O J ee]] W fun e w'=>Ret W w' e g aK cK/\Has Xb w' B lo (Up W (A8 B aS aH aF aL)) M'/\Fine W w' (A8 B aS aH aF aL))) :
  Calls Tryz.prog 158 #[.pointer (some ⟨B,0,none⟩),.agg #[O J c.kind,O J c.a,O J c.b,O J c.time,O J c.bk,O J c.slot,O J 3,O J cur,O J prev,O J slot,O J nn,Y aK keys.length cK,.bool false,O J ee]] w fun e w'=>Ret w w' e g aK cK/\Has Xb w' B lo (Up w (A8 B aS aH aF aL)) M'/\Fine w w' (A8 B aS aH aF aL):=by
 obtain⟨of,hof⟩:∃ o:Obj,o=.cells #[O J c.kind,O J c.a,O J c.b,O J c.time,O J c.bk,O J c.slot,O J 3,O J cur,O J prev,O J slot,O J nn,Y aK keys.length cK,.bool false,O J ee] 47:=⟨_,rfl⟩
 obtain⟨oz,hoz⟩:∃ o:Obj,o=Ac:=⟨_,rfl⟩
 have HE:Hid (Lk Xb w ((w.alloc of).alloc oz) B lo aS aH aF aL cS cH cF cL M ⟨c,3,cur,prev,slot,nn,keys,false,ee⟩ aK cK):=Lk.first m ⟨c,3,cur,prev,slot,nn,keys,false,ee⟩ aK cK hof hoz
 obtain⟨f0,f1,f2,f3,f4,f5,f6,f7,f8,f9,f10,f11,f12,f13,ff,fs⟩:=Aa (show ((w.alloc of).alloc oz).heap[w.heap.size]?=some (.cells #[O J c.kind,O J c.a,O J c.b,O J c.time,O J c.bk,O J c.slot,O J 3,O J cur,O J prev,O J slot,O J nn,Y aK keys.length cK,.bool false,O J ee] 47 (0,0)) from HE.out.fb)
 unfold Ac at hoz
 clear m
 go_enter Tryz.func158,Tryz.ntmps158
 go_wp2_with fail
 rw[<- hof,<- hoz]
 generalize (w.alloc of).alloc oz=W0 at *
 subst hof hoz
 have HE1:Hid (Lk Xb w W0 B lo aS aH aF aL cS cH cF cL M ⟨c,3,cur,prev,slot,nn,keys,false,ee⟩ aK cK):=HE.out
 clear HE
 clear f0 f1 f2 f3 f4 f5 f6 f7 f8 f9 f10 f11 f12 f13 ff fs
 refine(HP.out _ HE1.out.m (HR.out.below HE1.out.bl)).mono ?_
 rintro e w2 ⟨⟨a2,c2,rfl,hr2,hl2,hd2⟩,hh2,hf2⟩
 have HK2:Hid (Ag w2 a2 c2 keys/\∀ ad,a2=some ad->aK=some ad\/w.heap.size+2<=ad.block):=⟨HKy.out ▸ hr2,fun ad h=>(hl2 ad h).imp id (fun h'=>Nat.le_trans (lt_of_block HE1.out.zb) h')⟩
 have HD2:Hid (g.done=false->a2=aK/\c2=cK):=hd2
 have HE2:Hid (Lk2 Xb w w2 (A8 B aS aH aF aL) B lo M' ⟨c,3,cur,prev,slot,nn,keys,false,ee⟩ aK cK):=HE1.out.after hh2 hf2
 clear HE1 hh2 hf2 hr2 hl2 hd2
 obtain⟨g0,g1,g2,g3,g4,g5,g6,g7,g8,g9,g10,g11,g12,g13,gf,gs⟩:=Aa HE2.out.zb
 go_wp2
 refine bodyPost_ret (v:=.agg #[O J g.c.kind,O J g.c.a,O J g.c.b,O J g.c.time,O J g.c.bk,O J g.c.slot,O J g.pl,O J g.cur,O J g.prev,O J g.slot,O J g.n,Y a2 g.keys.length c2,.bool g.done,O J g.e]) (by simp[results,Tryz.results158,go_sem,g0,g1,g2,g3,g4,g5,g6,g7,g8,g9,g10,g11,g12,g13]) rfl ⟨⟨a2,c2,rfl,by rw[HKy.out];exact Ld rfl HK2.out.1 HR.out HK2.out.2,(fun ad h=>(HK2.out.2 ad h).imp id (fun h'=>by omega)),HD2.out⟩,HE2.out.Ah⟩
set_option maxHeartbeats 1600000 in
theorem step4(M M':Mm)(g:Fr)(c:Cl)(cur prev slot nn ee:Int)(keys:List (Int × Int))(B lo:Nat)(aS aH aF aL:Option Addr)(cS cH cF cL:Nat)(aK:Option Addr)(cK:Nat)(w:World)
  (m:Mine Xb w B lo aS aH aF aL cS cH cF cL M) (HR:Hid (Ag w aK cK keys)) (HKy:Hid (g.keys=keys))
  (HP:Hid (∀ (W:World),Mine Xb W B lo aS aH aF aL cS cH cF cL M->Ag W aK cK keys->Calls Tryz.prog 168 #[.pointer (some ⟨B,0,none⟩),.agg #[O J c.kind,O J c.a,O J c.b,O J c.time,O J c.bk,O J c.slot,O J 4,O J cur,O J prev,O J slot,O J nn,Y aK keys.length cK,.bool false,O J ee]] W fun e w'=>Ret W w' e g aK cK/\Has Xb w' B lo (Up W (A8 B aS aH aF aL)) M'/\Fine W w' (A8 B aS aH aF aL))) :
  Calls Tryz.prog 158 #[.pointer (some ⟨B,0,none⟩),.agg #[O J c.kind,O J c.a,O J c.b,O J c.time,O J c.bk,O J c.slot,O J 4,O J cur,O J prev,O J slot,O J nn,Y aK keys.length cK,.bool false,O J ee]] w fun e w'=>Ret w w' e g aK cK/\Has Xb w' B lo (Up w (A8 B aS aH aF aL)) M'/\Fine w w' (A8 B aS aH aF aL):=by
 obtain⟨of,hof⟩:∃ o:Obj,o=.cells #[O J c.kind,O J c.a,O J c.b,O J c.time,O J c.bk,O J c.slot,O J 4,O J cur,O J prev,O J slot,O J nn,Y aK keys.length cK,.bool false,O J ee] 47:=⟨_,rfl⟩
 obtain⟨oz,hoz⟩:∃ o:Obj,o=Ac:=⟨_,rfl⟩
 have HE:Hid (Lk Xb w ((w.alloc of).alloc oz) B lo aS aH aF aL cS cH cF cL M ⟨c,4,cur,prev,slot,nn,keys,false,ee⟩ aK cK):=Lk.first m ⟨c,4,cur,prev,slot,nn,keys,false,ee⟩ aK cK hof hoz
 obtain⟨f0,f1,f2,f3,f4,f5,f6,f7,f8,f9,f10,f11,f12,f13,ff,fs⟩:=Aa (show ((w.alloc of).alloc oz).heap[w.heap.size]?=some (.cells #[O J c.kind,O J c.a,O J c.b,O J c.time,O J c.bk,O J c.slot,O J 4,O J cur,O J prev,O J slot,O J nn,Y aK keys.length cK,.bool false,O J ee] 47 (0,0)) from HE.out.fb)
 unfold Ac at hoz
 clear m
 go_enter Tryz.func158,Tryz.ntmps158
 go_wp2_with fail
 rw[<- hof,<- hoz]
 generalize (w.alloc of).alloc oz=W0 at *
 subst hof hoz
 have HE1:Hid (Lk Xb w W0 B lo aS aH aF aL cS cH cF cL M ⟨c,4,cur,prev,slot,nn,keys,false,ee⟩ aK cK):=HE.out
 clear HE
 clear f0 f1 f2 f3 f4 f5 f6 f7 f8 f9 f10 f11 f12 f13 ff fs
 refine(HP.out _ HE1.out.m (HR.out.below HE1.out.bl)).mono ?_
 rintro e w2 ⟨⟨a2,c2,rfl,hr2,hl2,hd2⟩,hh2,hf2⟩
 have HK2:Hid (Ag w2 a2 c2 keys/\∀ ad,a2=some ad->aK=some ad\/w.heap.size+2<=ad.block):=⟨HKy.out ▸ hr2,fun ad h=>(hl2 ad h).imp id (fun h'=>Nat.le_trans (lt_of_block HE1.out.zb) h')⟩
 have HD2:Hid (g.done=false->a2=aK/\c2=cK):=hd2
 have HE2:Hid (Lk2 Xb w w2 (A8 B aS aH aF aL) B lo M' ⟨c,4,cur,prev,slot,nn,keys,false,ee⟩ aK cK):=HE1.out.after hh2 hf2
 clear HE1 hh2 hf2 hr2 hl2 hd2
 obtain⟨g0,g1,g2,g3,g4,g5,g6,g7,g8,g9,g10,g11,g12,g13,gf,gs⟩:=Aa HE2.out.zb
 go_wp2
 refine bodyPost_ret (v:=.agg #[O J g.c.kind,O J g.c.a,O J g.c.b,O J g.c.time,O J g.c.bk,O J g.c.slot,O J g.pl,O J g.cur,O J g.prev,O J g.slot,O J g.n,Y a2 g.keys.length c2,.bool g.done,O J g.e]) (by simp[results,Tryz.results158,go_sem,g0,g1,g2,g3,g4,g5,g6,g7,g8,g9,g10,g11,g12,g13]) rfl ⟨⟨a2,c2,rfl,by rw[HKy.out];exact Ld rfl HK2.out.1 HR.out HK2.out.2,(fun ad h=>(HK2.out.2 ad h).imp id (fun h'=>by omega)),HD2.out⟩,HE2.out.Ah⟩
set_option maxHeartbeats 1600000 in
theorem step5(M M':Mm)(g:Fr)(c:Cl)(cur prev slot nn ee:Int)(keys:List (Int × Int))(B lo:Nat)(aS aH aF aL:Option Addr)(cS cH cF cL:Nat)(aK:Option Addr)(cK:Nat)(w:World)
  (m:Mine Xb w B lo aS aH aF aL cS cH cF cL M) (HR:Hid (Ag w aK cK keys)) (HKy:Hid (g.keys=keys))
  (HP:Hid (∀ (W:World),Mine Xb W B lo aS aH aF aL cS cH cF cL M->Ag W aK cK keys->Calls Tryz.prog 169 #[.pointer (some ⟨B,0,none⟩),.agg #[O J c.kind,O J c.a,O J c.b,O J c.time,O J c.bk,O J c.slot,O J 5,O J cur,O J prev,O J slot,O J nn,Y aK keys.length cK,.bool false,O J ee]] W fun e w'=>Ret W w' e g aK cK/\Has Xb w' B lo (Up W (A8 B aS aH aF aL)) M'/\Fine W w' (A8 B aS aH aF aL))) :
  Calls Tryz.prog 158 #[.pointer (some ⟨B,0,none⟩),.agg #[O J c.kind,O J c.a,O J c.b,O J c.time,O J c.bk,O J c.slot,O J 5,O J cur,O J prev,O J slot,O J nn,Y aK keys.length cK,.bool false,O J ee]] w fun e w'=>Ret w w' e g aK cK/\Has Xb w' B lo (Up w (A8 B aS aH aF aL)) M'/\Fine w w' (A8 B aS aH aF aL):=by
 obtain⟨of,hof⟩:∃ o:Obj,o=.cells #[O J c.kind,O J c.a,O J c.b,O J c.time,O J c.bk,O J c.slot,O J 5,O J cur,O J prev,O J slot,O J nn,Y aK keys.length cK,.bool false,O J ee] 47:=⟨_,rfl⟩
 obtain⟨oz,hoz⟩:∃ o:Obj,o=Ac:=⟨_,rfl⟩
 have HE:Hid (Lk Xb w ((w.alloc of).alloc oz) B lo aS aH aF aL cS cH cF cL M ⟨c,5,cur,prev,slot,nn,keys,false,ee⟩ aK cK):=Lk.first m ⟨c,5,cur,prev,slot,nn,keys,false,ee⟩ aK cK hof hoz
 obtain⟨f0,f1,f2,f3,f4,f5,f6,f7,f8,f9,f10,f11,f12,f13,ff,fs⟩:=Aa (show ((w.alloc of).alloc oz).heap[w.heap.size]?=some (.cells #[O J c.kind,O J c.a,O J c.b,O J c.time,O J c.bk,O J c.slot,O J 5,O J cur,O J prev,O J slot,O J nn,Y aK keys.length cK,.bool false,O J ee] 47 (0,0)) from HE.out.fb)
 unfold Ac at hoz
 clear m
 go_enter Tryz.func158,Tryz.ntmps158
 go_wp2_with fail
 rw[<- hof,<- hoz]
 generalize (w.alloc of).alloc oz=W0 at *
 subst hof hoz
 have HE1:Hid (Lk Xb w W0 B lo aS aH aF aL cS cH cF cL M ⟨c,5,cur,prev,slot,nn,keys,false,ee⟩ aK cK):=HE.out
 clear HE
 clear f0 f1 f2 f3 f4 f5 f6 f7 f8 f9 f10 f11 f12 f13 ff fs
 refine(HP.out _ HE1.out.m (HR.out.below HE1.out.bl)).mono ?_
 rintro e w2 ⟨⟨a2,c2,rfl,hr2,hl2,hd2⟩,hh2,hf2⟩
 have HK2:Hid (Ag w2 a2 c2 keys/\∀ ad,a2=some ad->aK=some ad\/w.heap.size+2<=ad.block):=⟨HKy.out ▸ hr2,fun ad h=>(hl2 ad h).imp id (fun h'=>Nat.le_trans (lt_of_block HE1.out.zb) h')⟩
 have HD2:Hid (g.done=false->a2=aK/\c2=cK):=hd2
 have HE2:Hid (Lk2 Xb w w2 (A8 B aS aH aF aL) B lo M' ⟨c,5,cur,prev,slot,nn,keys,false,ee⟩ aK cK):=HE1.out.after hh2 hf2
 clear HE1 hh2 hf2 hr2 hl2 hd2
 obtain⟨g0,g1,g2,g3,g4,g5,g6,g7,g8,g9,g10,g11,g12,g13,gf,gs⟩:=Aa HE2.out.zb
 go_wp2
 refine bodyPost_ret (v:=.agg #[O J g.c.kind,O J g.c.a,O J g.c.b,O J g.c.time,O J g.c.bk,O J g.c.slot,O J g.pl,O J g.cur,O J g.prev,O J g.slot,O J g.n,Y a2 g.keys.length c2,.bool g.done,O J g.e]) (by simp[results,Tryz.results158,go_sem,g0,g1,g2,g3,g4,g5,g6,g7,g8,g9,g10,g11,g12,g13]) rfl ⟨⟨a2,c2,rfl,by rw[HKy.out];exact Ld rfl HK2.out.1 HR.out HK2.out.2,(fun ad h=>(HK2.out.2 ad h).imp id (fun h'=>by omega)),HD2.out⟩,HE2.out.Ah⟩
set_option maxHeartbeats 1600000 in
theorem step6(M M':Mm)(g:Fr)(c:Cl)(cur prev slot nn ee:Int)(keys:List (Int × Int))(B lo:Nat)(aS aH aF aL:Option Addr)(cS cH cF cL:Nat)(aK:Option Addr)(cK:Nat)(w:World)
  (m:Mine Xb w B lo aS aH aF aL cS cH cF cL M) (HR:Hid (Ag w aK cK keys)) (HKy:Hid (g.keys=keys))
  (HP:Hid (∀ (W:World),Mine Xb W B lo aS aH aF aL cS cH cF cL M->Ag W aK cK keys->Calls Tryz.prog 170 #[.pointer (some ⟨B,0,none⟩),.agg #[O J c.kind,O J c.a,O J c.b,O J c.time,O J c.bk,O J c.slot,O J 6,O J cur,O J prev,O J slot,O J nn,Y aK keys.length cK,.bool false,O J ee]] W fun e w'=>Ret W w' e g aK cK/\Has Xb w' B lo (Up W (A8 B aS aH aF aL)) M'/\Fine W w' (A8 B aS aH aF aL))) :
  Calls Tryz.prog 158 #[.pointer (some ⟨B,0,none⟩),.agg #[O J c.kind,O J c.a,O J c.b,O J c.time,O J c.bk,O J c.slot,O J 6,O J cur,O J prev,O J slot,O J nn,Y aK keys.length cK,.bool false,O J ee]] w fun e w'=>Ret w w' e g aK cK/\Has Xb w' B lo (Up w (A8 B aS aH aF aL)) M'/\Fine w w' (A8 B aS aH aF aL):=by
 obtain⟨of,hof⟩:∃ o:Obj,o=.cells #[O J c.kind,O J c.a,O J c.b,O J c.time,O J c.bk,O J c.slot,O J 6,O J cur,O J prev,O J slot,O J nn,Y aK keys.length cK,.bool false,O J ee] 47:=⟨_,rfl⟩
 obtain⟨oz,hoz⟩:∃ o:Obj,o=Ac:=⟨_,rfl⟩
 have HE:Hid (Lk Xb w ((w.alloc of).alloc oz) B lo aS aH aF aL cS cH cF cL M ⟨c,6,cur,prev,slot,nn,keys,false,ee⟩ aK cK):=Lk.first m ⟨c,6,cur,prev,slot,nn,keys,false,ee⟩ aK cK hof hoz
 obtain⟨f0,f1,f2,f3,f4,f5,f6,f7,f8,f9,f10,f11,f12,f13,ff,fs⟩:=Aa (show ((w.alloc of).alloc oz).heap[w.heap.size]?=some (.cells #[O J c.kind,O J c.a,O J c.b,O J c.time,O J c.bk,O J c.slot,O J 6,O J cur,O J prev,O J slot,O J nn,Y aK keys.length cK,.bool false,O J ee] 47 (0,0)) from HE.out.fb)
 unfold Ac at hoz
 clear m
 go_enter Tryz.func158,Tryz.ntmps158
 go_wp2_with fail
 rw[<- hof,<- hoz]
 generalize (w.alloc of).alloc oz=W0 at *
 subst hof hoz
 have HE1:Hid (Lk Xb w W0 B lo aS aH aF aL cS cH cF cL M ⟨c,6,cur,prev,slot,nn,keys,false,ee⟩ aK cK):=HE.out
 clear HE
 clear f0 f1 f2 f3 f4 f5 f6 f7 f8 f9 f10 f11 f12 f13 ff fs
 refine(HP.out _ HE1.out.m (HR.out.below HE1.out.bl)).mono ?_
 rintro e w2 ⟨⟨a2,c2,rfl,hr2,hl2,hd2⟩,hh2,hf2⟩
 have HK2:Hid (Ag w2 a2 c2 keys/\∀ ad,a2=some ad->aK=some ad\/w.heap.size+2<=ad.block):=⟨HKy.out ▸ hr2,fun ad h=>(hl2 ad h).imp id (fun h'=>Nat.le_trans (lt_of_block HE1.out.zb) h')⟩
 have HD2:Hid (g.done=false->a2=aK/\c2=cK):=hd2
 have HE2:Hid (Lk2 Xb w w2 (A8 B aS aH aF aL) B lo M' ⟨c,6,cur,prev,slot,nn,keys,false,ee⟩ aK cK):=HE1.out.after hh2 hf2
 clear HE1 hh2 hf2 hr2 hl2 hd2
 obtain⟨g0,g1,g2,g3,g4,g5,g6,g7,g8,g9,g10,g11,g12,g13,gf,gs⟩:=Aa HE2.out.zb
 go_wp2
 refine bodyPost_ret (v:=.agg #[O J g.c.kind,O J g.c.a,O J g.c.b,O J g.c.time,O J g.c.bk,O J g.c.slot,O J g.pl,O J g.cur,O J g.prev,O J g.slot,O J g.n,Y a2 g.keys.length c2,.bool g.done,O J g.e]) (by simp[results,Tryz.results158,go_sem,g0,g1,g2,g3,g4,g5,g6,g7,g8,g9,g10,g11,g12,g13]) rfl ⟨⟨a2,c2,rfl,by rw[HKy.out];exact Ld rfl HK2.out.1 HR.out HK2.out.2,(fun ad h=>(HK2.out.2 ad h).imp id (fun h'=>by omega)),HD2.out⟩,HE2.out.Ah⟩
set_option maxHeartbeats 1600000 in
theorem step7(M:Mm)(c:Cl)(pl cur prev slot nn ee:Int)(keys:List (Int × Int))(B lo:Nat)(aS aH aF aL:Option Addr)(cS cH cF cL:Nat)(aK:Option Addr)(cK:Nat)(w:World)
  (m:Mine Xb w B lo aS aH aF aL cS cH cF cL M) (HR:Hid (Ag w aK cK keys)) (h7:7<=pl) :
  Calls Tryz.prog 158 #[.pointer (some ⟨B,0,none⟩),.agg #[O J c.kind,O J c.a,O J c.b,O J c.time,O J c.bk,O J c.slot,O J pl,O J cur,O J prev,O J slot,O J nn,Y aK keys.length cK,.bool false,O J ee]] w fun e w'=>Ret w w' e (toF ⟨c,pl,cur,prev,slot,nn,keys,false,ee⟩ 0) aK cK/\Has Xb w' B lo (Up w (A8 B aS aH aF aL)) M/\Fine w w' (A8 B aS aH aF aL):=by
 have p0:(pl==0)=false:=by rw[beq_eq_false_iff_ne];omega
 have p1:(pl==1)=false:=by rw[beq_eq_false_iff_ne];omega
 have p2:(pl==2)=false:=by rw[beq_eq_false_iff_ne];omega
 have p3:(pl==3)=false:=by rw[beq_eq_false_iff_ne];omega
 have p4:(pl==4)=false:=by rw[beq_eq_false_iff_ne];omega
 have p5:(pl==5)=false:=by rw[beq_eq_false_iff_ne];omega
 have p6:(pl==6)=false:=by rw[beq_eq_false_iff_ne];omega
 obtain⟨of,hof⟩:∃ o:Obj,o=.cells #[O J c.kind,O J c.a,O J c.b,O J c.time,O J c.bk,O J c.slot,O J pl,O J cur,O J prev,O J slot,O J nn,Y aK keys.length cK,.bool false,O J ee] 47:=⟨_,rfl⟩
 obtain⟨oz,hoz⟩:∃ o:Obj,o=Ac:=⟨_,rfl⟩
 have HE:Hid (Lk Xb w ((w.alloc of).alloc oz) B lo aS aH aF aL cS cH cF cL M ⟨c,pl,cur,prev,slot,nn,keys,false,ee⟩ aK cK):=Lk.first m ⟨c,pl,cur,prev,slot,nn,keys,false,ee⟩ aK cK hof hoz
 obtain⟨f0,f1,f2,f3,f4,f5,f6,f7,f8,f9,f10,f11,f12,f13,ff,fs⟩:=Aa (show ((w.alloc of).alloc oz).heap[w.heap.size]?=some (.cells #[O J c.kind,O J c.a,O J c.b,O J c.time,O J c.bk,O J c.slot,O J pl,O J cur,O J prev,O J slot,O J nn,Y aK keys.length cK,.bool false,O J ee] 47 (0,0)) from HE.out.fb)
 unfold Ac at hoz
 clear m
 go_enter Tryz.func158,Tryz.ntmps158
 go_wp2_with fail
 rw[<- hof,<- hoz]
 generalize (w.alloc of).alloc oz=W0 at *
 subst hof hoz
 have HE1:Hid (Lk Xb w W0 B lo aS aH aF aL cS cH cF cL M ⟨c,pl,cur,prev,slot,nn,keys,false,ee⟩ aK cK):=HE.out
 clear HE
 clear f0 f1 f2 f3 f4 f5 f6 f7 f8 f9 f10 f11 f12 f13 ff fs
 refine(Cc ⟨c,pl,cur,prev,slot,nn,keys,false,ee⟩ 0 aK cK _).mono ?_
 rintro e w2 ⟨rfl,hb2⟩
 have HE2:Hid (Lk Xb w w2 B lo aS aH aF aL cS cH cF cL M ⟨c,pl,cur,prev,slot,nn,keys,false,ee⟩ aK cK):=HE1.out.below hb2
 clear HE1 hb2
 obtain⟨g0,g1,g2,g3,g4,g5,g6,g7,g8,g9,g10,g11,g12,g13,gf,gs⟩:=Aa HE2.out.zb
 go_wp2
 refine bodyPost_ret (v:=.agg #[O J (toF ⟨c,pl,cur,prev,slot,nn,keys,false,ee⟩ 0).c.kind,O J (toF ⟨c,pl,cur,prev,slot,nn,keys,false,ee⟩ 0).c.a,O J (toF ⟨c,pl,cur,prev,slot,nn,keys,false,ee⟩ 0).c.b,O J (toF ⟨c,pl,cur,prev,slot,nn,keys,false,ee⟩ 0).c.time,O J (toF ⟨c,pl,cur,prev,slot,nn,keys,false,ee⟩ 0).c.bk,O J (toF ⟨c,pl,cur,prev,slot,nn,keys,false,ee⟩ 0).c.slot,O J (toF ⟨c,pl,cur,prev,slot,nn,keys,false,ee⟩ 0).pl,O J (toF ⟨c,pl,cur,prev,slot,nn,keys,false,ee⟩ 0).cur,O J (toF ⟨c,pl,cur,prev,slot,nn,keys,false,ee⟩ 0).prev,O J (toF ⟨c,pl,cur,prev,slot,nn,keys,false,ee⟩ 0).slot,O J (toF ⟨c,pl,cur,prev,slot,nn,keys,false,ee⟩ 0).n,Y aK (toF ⟨c,pl,cur,prev,slot,nn,keys,false,ee⟩ 0).keys.length cK,.bool (toF ⟨c,pl,cur,prev,slot,nn,keys,false,ee⟩ 0).done,O J (toF ⟨c,pl,cur,prev,slot,nn,keys,false,ee⟩ 0).e]) (by simp[results,Tryz.results158,go_sem,toF,g0,g1,g2,g3,g4,g5,g6,g7,g8,g9,g10,g11,g12,g13]) rfl ⟨⟨aK,cK,rfl,HR.out.below (Gj HE2.out.bl),(fun ad h=>.inl h),fun _=>⟨rfl,rfl⟩⟩,HE2.out.Ah⟩
theorem a8v(M:Mm)(f:Fr)(B lo:Nat)(aS aH aF aL:Option Addr)(cS cH cF cL:Nat)(aK:Option Addr)(cK:Nat)(w:World)
  (m:Mine Xb w B lo aS aH aF aL cS cH cF cL M) (hM:Ok M) (hf:Fit M f) (r:Ag w aK cK f.keys) (hz:∀ ad,aK=some ad->¬ A8 B aS aH aF aL ad.block) :
  Calls Tryz.prog 158 #[.pointer (some ⟨B,0,none⟩),.agg #[O J f.c.kind,O J f.c.a,O J f.c.b,O J f.c.time,O J f.c.bk,O J f.c.slot,O J f.pl,O J f.cur,O J f.prev,O J f.slot,O J f.n,Y aK f.keys.length cK,.bool f.done,O J f.e]] w fun e w'=>Ret w w' e (lkF M f) aK cK/\Has Xb w' B lo (Up w (A8 B aS aH aF aL)) (lkM M f)/\Fine w w' (A8 B aS aH aF aL):=by
 obtain⟨c,pl,cur,prev,slot,nn,keys,done,ee⟩:=f
 have hd:done=false:=hf.done
 subst hd
 have hpl:0<=pl/\pl<=9:=hf.pl
 by_cases h7:7<=pl
 ·rw[lkF7 (f:=⟨c,pl,cur,prev,slot,nn,keys,false,ee⟩) h7,Dv (f:=⟨c,pl,cur,prev,slot,nn,keys,false,ee⟩) (by show pl≠3/\pl≠5/\pl≠6;omega)]
  exact step7 M c pl cur prev slot nn ee keys B lo aS aH aF aL cS cH cF cL aK cK w m r h7
 ·obtain rfl|rfl|rfl|rfl|rfl|rfl|rfl:pl=0\/pl=1\/pl=2\/pl=3\/pl=4\/pl=5\/pl=6:=by omega
  ·exact step0 M _ _ c cur prev slot nn ee keys B lo aS aH aF aL cS cH cF cL aK cK w m r (Jj _ _) (fun W m' r'=>part0 M ⟨c,0,cur,prev,slot,nn,keys,false,ee⟩ B lo aS aH aF aL cS cH cF cL aK cK W m' hM hf r' hz rfl)
  ·exact step1 M _ _ c cur prev slot nn ee keys B lo aS aH aF aL cS cH cF cL aK cK w m r (Jj _ _) (fun W m' r'=>part1 M ⟨c,1,cur,prev,slot,nn,keys,false,ee⟩ B lo aS aH aF aL cS cH cF cL aK cK W m' hM hf r' hz rfl)
  ·exact step2 M _ _ c cur prev slot nn ee keys B lo aS aH aF aL cS cH cF cL aK cK w m r (Jj _ _) (fun W m' r'=>part2 M ⟨c,2,cur,prev,slot,nn,keys,false,ee⟩ B lo aS aH aF aL cS cH cF cL aK cK W m' hM hf r' hz rfl)
  ·exact step3 M _ _ c cur prev slot nn ee keys B lo aS aH aF aL cS cH cF cL aK cK w m r (Jj _ _) (fun W m' r'=>part3 M ⟨c,3,cur,prev,slot,nn,keys,false,ee⟩ B lo aS aH aF aL cS cH cF cL aK cK W m' hM hf r' hz rfl)
  ·exact step4 M _ _ c cur prev slot nn ee keys B lo aS aH aF aL cS cH cF cL aK cK w m r (Jj _ _) (fun W m' r'=>part4 M ⟨c,4,cur,prev,slot,nn,keys,false,ee⟩ B lo aS aH aF aL cS cH cF cL aK cK W m' hM hf r' hz rfl)
  ·exact step5 M _ _ c cur prev slot nn ee keys B lo aS aH aF aL cS cH cF cL aK cK w m r (Jj _ _) (fun W m' r'=>part5 M ⟨c,5,cur,prev,slot,nn,keys,false,ee⟩ B lo aS aH aF aL cS cH cF cL aK cK W m' hM hf r' hz rfl)
  ·exact step6 M _ _ c cur prev slot nn ee keys B lo aS aH aF aL cS cH cF cL aK cK w m r (Jj _ _) (fun W m' r'=>part6 M ⟨c,6,cur,prev,slot,nn,keys,false,ee⟩ B lo aS aH aF aL cS cH cF cL aK cK W m' hM hf r' hz rfl)
end
end Go.Proofs.YthhgoenomehobaaGreat.mm
