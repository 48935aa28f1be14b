/- Parts. -/
import Derived.Test.YthhgoenomehobaaGreatS09
import Derived.Test.YthhgoenomehobaaGreatS10
import Derived.Test.YthhgoenomehobaaGreatS04
import Derived.Test.YthhgoenomehobaaGreatS06
import Derived.Deep.QuietTactic
import Derived.BigQuiet
import Derived.BigRegion
import Derived.Lib.QuietBelow
namespace Go.Proofs.YthhgoenomehobaaGreat.mm
set_option maxRecDepth 100000
set_option linter.unusedVariables false
open Go.Value renaming int → O, slice → Y
open Go.IntKind renaming i64 → J
section
open Go.ChangeShapes Go.WideShapes Go.ChangeAt Go.RowKit Go.Joins Go.Deep Go.Sort
variable {Xb:Ex}
set_option maxHeartbeats 3200000 in
theorem Qg(M:Mm)(f:Fr)(b:Nat)(B lo:Nat)(aS aH aF aL:Option Addr)(cS cH cF cL:Nat)(aK:Option Addr)(cK:Nat)(w:World)
  (m:Mine Xb w B lo aS aH aF aL cS cH cF cL M) (hM:Ok M) (hbl:b<M.heads.length) :
  Calls Tryz.prog 208 #[.pointer (some ⟨B,0,none⟩),O J (b:Int),.agg #[O J f.c.kind,O J f.c.a,O J f.c.b,O J f.c.time,O J f.c.bk,O J f.c.slot,O J f.pl,O J f.cur,O J f.prev,O J f.slot,O J f.n,Y aK f.keys.length cK,.bool f.done,O J f.e]] w fun e w'=>e=.returned (.tuple #[.agg #[O J ({ f with prev:=0,cur:=Ar M b }).c.kind,O J ({ f with prev:=0,cur:=Ar M b }).c.a,O J ({ f with prev:=0,cur:=Ar M b }).c.b,O J ({ f with prev:=0,cur:=Ar M b }).c.time,O J ({ f with prev:=0,cur:=Ar M b }).c.bk,O J ({ f with prev:=0,cur:=Ar M b }).c.slot,O J ({ f with prev:=0,cur:=Ar M b }).pl,O J ({ f with prev:=0,cur:=Ar M b }).cur,O J ({ f with prev:=0,cur:=Ar M b }).prev,O J ({ f with prev:=0,cur:=Ar M b }).slot,O J ({ f with prev:=0,cur:=Ar M b }).n,Y aK ({ f with prev:=0,cur:=Ar M b }).keys.length cK,.bool ({ f with prev:=0,cur:=Ar M b }).done,O J ({ f with prev:=0,cur:=Ar M b }).e],.bool true])/\Has Xb w' B lo (Up w (A8 B aS aH aF aL)) M/\Fine w w' (A8 B aS aH aF aL):=by
 have hnh:=hM.nh.2
 obtain⟨gH,rfl,oH,lH,-,-⟩:=Dc m.c.h (by omega)
 obtain⟨x,hx⟩:∃ x,x=M.heads[b]:=⟨_,rfl⟩
 have hhd:Ar M b=x:=by rw[hx];simp[Ar,List.getD_eq_getElem?_getD,hbl]
 rw[hhd]
 have HX:Hid (∀ W,Mine Xb W B lo aS (some ⟨gH,0,none⟩) aF aL cS cH cF cL M->W.cell? ⟨gH,b,none⟩=some (O J x)):=fun W m'=>by rw[hx];exact(Jk m'.c.h hbl).1
 have HCh:Hid (∀ W:World,Calls Tryz.prog 97 #[.agg #[Y aS M.slots.length cS,Y (some ⟨gH,0,none⟩) M.heads.length cH,Y aF M.free.length cF,Y aL M.locks.length cL,O J M.now],O J (b:Int)] W fun e w'=>e=.returned (.bool true)/\Below W.heap.size W w'):=fun W=>(show inB (b:Int) 0 ((M.heads.length:Int) - 1)=true from (Ai _ _ _).2 (by omega)) ▸ Hq _ _ _ _ _ _ _ _ cS cH cF cL M.now (b:Int) W (by omega)
 obtain⟨of,hof⟩:=frObj f aK cK
 obtain⟨oz,hoz⟩:∃ o:Obj,o=Ac:=⟨_,rfl⟩
 have HE:Hid (Lk Xb w ((w.alloc of).alloc oz) B lo aS (some ⟨gH,0,none⟩) aF aL cS cH cF cL M f aK cK):=Lk.first m f aK cK hof hoz
 obtain⟨q0,q1,q2,q3,q4,-,-,-,-,-,qs⟩:=Aj m.box
 obtain⟨f0,f1,f2,f3,f4,f5,f6,f7,f8,f9,f10,f11,f12,f13,ff,fs⟩:=Aa HE.out.fb
 unfold Ac at hoz
 clear m hM hnh hx hhd oH lH
 go_enter Tryz.func208,Tryz.ntmps208
 go_wp2_with fail
 rw[<- hof,<- hoz]
 generalize (w.alloc of).alloc oz=W0 at *
 subst hof hoz
 clear q0 q1 q2 q3 q4 qs
 clear f0 f1 f2 f3 f4 f5 f6 f7 f8 f9 f10 f11 f12 f13 ff fs
 refine(HCh.out W0).mono ?_
 rintro e w2 ⟨rfl,hb2⟩
 have HE2:Hid (Lk Xb w w2 B lo aS (some ⟨gH,0,none⟩) aF aL cS cH cF cL M f aK cK):=HE.out.below hb2
 clear HE hb2
 obtain⟨q0,q1,q2,q3,q4,-,-,-,-,-,qs⟩:=Aj HE2.out.m.box
 obtain⟨f0,f1,f2,f3,f4,f5,f6,f7,f8,f9,f10,f11,f12,f13,ff,fs⟩:=Aa HE2.out.fb
 have hc:=HX.out w2 HE2.out.m
 have hcl:=cell_lt hc
 have hB0:B<w.heap.size:=HE2.out.lt B (.inl rfl)
 have hg0:gH<w.heap.size:=HE2.out.lt gH (.inr (.inr (.inl ⟨_,rfl,rfl⟩)))
 have hBn:B≠w.heap.size:=by omega
 have hgn:gH≠w.heap.size:=by omega
 have hBm:w.heap.size≠B:=by omega
 have hgm:w.heap.size≠gH:=by omega
 go_wp2_with fail
 rename_i K0 hK0
 apply Ii (R:=fun a=>∀ W2:World,Lk2 Xb w W2 (A8 B aS (some ⟨gH,0,none⟩) aF aL) B lo M { f with prev:=0,cur:=x } aK cK->K0 a W2)
 ·intro tail0
  have tail:Hid _:=tail0
  clear tail0
  go_region
  all_goals exact tail.out _ (((HE2.out.store 8 (O J 0) { f with prev:=0 } rfl).store 7 (O J x) { f with prev:=0,cur:=x } rfl).two.below ⟨rfl,rfl,rfl,Nat.le_refl _,fun _ _=>rfl⟩)
 intro w3 h3
 have HE3:Hid (Lk2 Xb w w3 (A8 B aS (some ⟨gH,0,none⟩) aF aL) B lo M { f with prev:=0,cur:=x } aK cK):=h3
 refine hK0 _ _ ?_
 clear h3 hK0 HE2 hc hcl hB0 hg0 hBn hgn hBm hgm
 clear f0 f1 f2 f3 f4 f5 f6 f7 f8 f9 f10 f11 f12 f13 ff fs
 obtain⟨f0,f1,f2,f3,f4,f5,f6,f7,f8,f9,f10,f11,f12,f13,ff,fs⟩:=Aa HE3.out.fb
 clear q0 q1 q2 q3 q4 qs
 obtain⟨g0,g1,g2,g3,g4,g5,g6,g7,g8,g9,g10,g11,g12,g13,gf,gs⟩:=Aa HE3.out.zb
 go_wp2
 refine bodyPost_ret (v:=.tuple #[.agg #[O J ({ f with prev:=0,cur:=x }).c.kind,O J ({ f with prev:=0,cur:=x }).c.a,O J ({ f with prev:=0,cur:=x }).c.b,O J ({ f with prev:=0,cur:=x }).c.time,O J ({ f with prev:=0,cur:=x }).c.bk,O J ({ f with prev:=0,cur:=x }).c.slot,O J ({ f with prev:=0,cur:=x }).pl,O J ({ f with prev:=0,cur:=x }).cur,O J ({ f with prev:=0,cur:=x }).prev,O J ({ f with prev:=0,cur:=x }).slot,O J ({ f with prev:=0,cur:=x }).n,Y aK ({ f with prev:=0,cur:=x }).keys.length cK,.bool ({ f with prev:=0,cur:=x }).done,O J ({ f with prev:=0,cur:=x }).e],.bool true]) (by simp[results,Tryz.results208,go_sem,g0,g1,g2,g3,g4,g5,g6,g7,g8,g9,g10,g11,g12,g13]) rfl ⟨rfl,HE3.out.Ah⟩
set_option maxHeartbeats 3200000 in
theorem Xf(M:Mm)(f:Fr)(B lo:Nat)(aS aH aF aL:Option Addr)(cS cH cF cL:Nat)(aK:Option Addr)(cK:Nat)(w:World)
  (m:Mine Xb w B lo aS aH aF aL cS cH cF cL M) (hM:Ok M) (hf:Fit M f) (hat:D7 M f=true) :
  Calls Tryz.prog 209 #[.pointer (some ⟨B,0,none⟩),.agg #[O J f.c.kind,O J f.c.a,O J f.c.b,O J f.c.time,O J f.c.bk,O J f.c.slot,O J f.pl,O J f.cur,O J f.prev,O J f.slot,O J f.n,Y aK f.keys.length cK,.bool f.done,O J f.e]] w fun e w'=>e=.returned (.tuple #[.agg #[O J ({ f with prev:=f.cur,cur:=(A7 M (f.cur - 1)).next }).c.kind,O J ({ f with prev:=f.cur,cur:=(A7 M (f.cur - 1)).next }).c.a,O J ({ f with prev:=f.cur,cur:=(A7 M (f.cur - 1)).next }).c.b,O J ({ f with prev:=f.cur,cur:=(A7 M (f.cur - 1)).next }).c.time,O J ({ f with prev:=f.cur,cur:=(A7 M (f.cur - 1)).next }).c.bk,O J ({ f with prev:=f.cur,cur:=(A7 M (f.cur - 1)).next }).c.slot,O J ({ f with prev:=f.cur,cur:=(A7 M (f.cur - 1)).next }).pl,O J ({ f with prev:=f.cur,cur:=(A7 M (f.cur - 1)).next }).cur,O J ({ f with prev:=f.cur,cur:=(A7 M (f.cur - 1)).next }).prev,O J ({ f with prev:=f.cur,cur:=(A7 M (f.cur - 1)).next }).slot,O J ({ f with prev:=f.cur,cur:=(A7 M (f.cur - 1)).next }).n,Y aK ({ f with prev:=f.cur,cur:=(A7 M (f.cur - 1)).next }).keys.length cK,.bool ({ f with prev:=f.cur,cur:=(A7 M (f.cur - 1)).next }).done,O J ({ f with prev:=f.cur,cur:=(A7 M (f.cur - 1)).next }).e],.bool true])/\Has Xb w' B lo (Up w (A8 B aS aH aF aL)) M/\Fine w w' (A8 B aS aH aF aL):=by
 have hns:=hM.ns
 have hcur:=hf.cur.2
 have hc1:f.cur<=1000:=by omega
 have hn1:M.slots.length<=1000:=by omega
 have h1:=Bv.1 hat
 obtain⟨j,hj⟩:∃ j:Nat,f.cur - 1=j:=⟨(f.cur - 1).toNat,by omega⟩
 have hjl:j<M.slots.length:=by omega
 obtain⟨gS,rfl,oS,lS,kS,-⟩:=Dc m.c.s (by omega)
 obtain⟨s,hs⟩:∃ s,s=A7 M (j:Int):=⟨_,rfl⟩
 have hst:stN f=j:=by unfold stN;rw[if_neg (by omega)];exact hj
 rw[hj,<- hs]
 have HSt:Hid (∀ (W:World),Lk Xb w W B lo (some ⟨gS,0,none⟩) aH aF aL cS cH cF cL M f aK cK->Calls Tryz.prog 200 #[.pointer (some ⟨B,0,none⟩),.agg #[O J f.c.kind,O J f.c.a,O J f.c.b,O J f.c.time,O J f.c.bk,O J f.c.slot,O J f.pl,O J f.cur,O J f.prev,O J f.slot,O J f.n,Y aK f.keys.length cK,.bool f.done,O J f.e]] W fun e w'=>e=.returned (.tuple #[O J ((j:Int)),.bool true])/\Lk Xb w w' B lo (some ⟨gS,0,none⟩) aH aF aL cS cH cF cL M f aK cK):=fun W h=>by
  have:=Bo M f B _ _ _ _ cS cH cF cL aK cK W h.m.box hc1 hn1
  rw[hst,hat] at this
  exact this.mono (fun e w' h'=>⟨h'.1,h.below h'.2⟩)
 have HX:Hid (∀ W,Mine Xb W B lo (some ⟨gS,0,none⟩) aH aF aL cS cH cF cL M->W.cell? ⟨gS,j*6+1,none⟩=some (O J s.a)/\W.cell? ⟨gS,j*6+2,none⟩=some (O J s.b)/\W.cell? ⟨gS,j*6+5,none⟩=some (O J s.next)):=fun W m'=>⟨(Bd m'.c.s hjl hs).2.1,(Bd m'.c.s hjl hs).2.2.1,(Bd m'.c.s hjl hs).2.2.2.2.2.1⟩
 obtain⟨of,hof⟩:=frObj f aK cK
 obtain⟨oz,hoz⟩:∃ o:Obj,o=Ac:=⟨_,rfl⟩
 have HE:Hid (Lk Xb w ((w.alloc of).alloc oz) B lo (some ⟨gS,0,none⟩) aH aF aL cS cH cF cL M f aK cK):=Lk.first m f aK cK hof hoz
 obtain⟨q0,q1,q2,q3,q4,-,-,-,-,-,qs⟩:=Aj HE.out.m.box
 obtain⟨f0,f1,f2,f3,f4,f5,f6,f7,f8,f9,f10,f11,f12,f13,ff,fs⟩:=Aa HE.out.fb
 unfold Ac at hoz
 clear m hM hf hns hcur hc1 hn1 hs hst hat h1
 go_enter Tryz.func209,Tryz.ntmps209
 go_wp2_with fail
 rw[<- hof,<- hoz]
 generalize (w.alloc of).alloc oz=W0 at *
 subst hof hoz
 clear q0 q1 q2 q3 q4 qs
 clear f0 f1 f2 f3 f4 f5 f6 f7 f8 f9 f10 f11 f12 f13 ff fs
 refine(HSt.out _ (by exact HE.out.below ⟨rfl,rfl,rfl,Nat.le_refl _,fun _ _=>rfl⟩)).mono ?_
 rintro e w1 ⟨rfl,h9⟩
 have HE1:Hid (Lk Xb w w1 B lo (some ⟨gS,0,none⟩) aH aF aL cS cH cF cL M f aK cK):=h9
 clear HE h9
 obtain⟨q0,q1,q2,q3,q4,-,-,-,-,-,qs⟩:=Aj HE1.out.m.box
 obtain⟨f0,f1,f2,f3,f4,f5,f6,f7,f8,f9,f10,f11,f12,f13,ff,fs⟩:=Aa HE1.out.fb
 obtain⟨x1,x2,x5⟩:=HX.out w1 HE1.out.m
 have hB0:B<w.heap.size:=HE1.out.lt B (.inl rfl)
 have hg0:gS<w.heap.size:=HE1.out.lt gS (.inr (.inl ⟨_,rfl,rfl⟩))
 have hBn:B≠w.heap.size:=by omega
 have hgn:gS≠w.heap.size:=by omega
 have hBm:w.heap.size≠B:=by omega
 have hgm:w.heap.size≠gS:=by omega
 go_wp2_with fail
 rename_i K0 hK0
 apply Ii (R:=fun a=>∀ W2:World,Lk2 Xb w W2 (A8 B (some ⟨gS,0,none⟩) aH aF aL) B lo M { f with prev:=f.cur,cur:=s.next } aK cK->K0 a W2)
 ·intro tail0
  have tail:Hid _:=tail0
  clear tail0
  go_region
  all_goals exact tail.out _ (((HE1.out.store 8 (O J f.cur) { f with prev:=f.cur } rfl).store 7 (O J s.next) { f with prev:=f.cur,cur:=s.next } rfl).two.below ⟨rfl,rfl,rfl,Nat.le_refl _,fun _ _=>rfl⟩)
 intro w3 h3
 have HE2:Hid (Lk2 Xb w w3 (A8 B (some ⟨gS,0,none⟩) aH aF aL) B lo M { f with prev:=f.cur,cur:=s.next } aK cK):=h3
 refine hK0 _ _ ?_
 clear h3 hK0 HE1 x1 x2 x5 hB0 hg0 hBn hgn hBm hgm
 clear f0 f1 f2 f3 f4 f5 f6 f7 f8 f9 f10 f11 f12 f13 ff fs
 obtain⟨f0,f1,f2,f3,f4,f5,f6,f7,f8,f9,f10,f11,f12,f13,ff,fs⟩:=Aa HE2.out.fb
 clear q0 q1 q2 q3 q4 qs
 obtain⟨g0,g1,g2,g3,g4,g5,g6,g7,g8,g9,g10,g11,g12,g13,gf,gs⟩:=Aa HE2.out.zb
 go_wp2
 refine bodyPost_ret (v:=.tuple #[.agg #[O J ({ f with prev:=f.cur,cur:=s.next }).c.kind,O J ({ f with prev:=f.cur,cur:=s.next }).c.a,O J ({ f with prev:=f.cur,cur:=s.next }).c.b,O J ({ f with prev:=f.cur,cur:=s.next }).c.time,O J ({ f with prev:=f.cur,cur:=s.next }).c.bk,O J ({ f with prev:=f.cur,cur:=s.next }).c.slot,O J ({ f with prev:=f.cur,cur:=s.next }).pl,O J ({ f with prev:=f.cur,cur:=s.next }).cur,O J ({ f with prev:=f.cur,cur:=s.next }).prev,O J ({ f with prev:=f.cur,cur:=s.next }).slot,O J ({ f with prev:=f.cur,cur:=s.next }).n,Y aK ({ f with prev:=f.cur,cur:=s.next }).keys.length cK,.bool ({ f with prev:=f.cur,cur:=s.next }).done,O J ({ f with prev:=f.cur,cur:=s.next }).e],.bool true]) (by simp[results,Tryz.results209,go_sem,g0,g1,g2,g3,g4,g5,g6,g7,g8,g9,g10,g11,g12,g13]) rfl ⟨rfl,HE2.out.Ah⟩
set_option maxHeartbeats 3200000 in
theorem Yx(M:Mm)(f:Fr)(B lo:Nat)(aS aH aF aL:Option Addr)(cS cH cF cL:Nat)(aK:Option Addr)(cK:Nat)(w:World)
  (m:Mine Xb w B lo aS aH aF aL cS cH cF cL M) (hM:Ok M) (hf:Fit M f) (hat0:D7 M f=false) :
  Calls Tryz.prog 209 #[.pointer (some ⟨B,0,none⟩),.agg #[O J f.c.kind,O J f.c.a,O J f.c.b,O J f.c.time,O J f.c.bk,O J f.c.slot,O J f.pl,O J f.cur,O J f.prev,O J f.slot,O J f.n,Y aK f.keys.length cK,.bool f.done,O J f.e]] w fun e w'=>e=.returned (.tuple #[.agg #[O J f.c.kind,O J f.c.a,O J f.c.b,O J f.c.time,O J f.c.bk,O J f.c.slot,O J f.pl,O J f.cur,O J f.prev,O J f.slot,O J f.n,Y aK f.keys.length cK,.bool f.done,O J f.e],.bool false])/\Has Xb w' B lo (Up w (A8 B aS aH aF aL)) M/\Fine w w' (A8 B aS aH aF aL):=by
 have hns:=hM.ns
 have hcur:=hf.cur.2
 have hc1:f.cur<=1000:=by omega
 have hn1:M.slots.length<=1000:=by omega
 have HSt:Hid (∀ (W:World),Lk Xb w W B lo aS aH aF aL cS cH cF cL M f aK cK->Calls Tryz.prog 200 #[.pointer (some ⟨B,0,none⟩),.agg #[O J f.c.kind,O J f.c.a,O J f.c.b,O J f.c.time,O J f.c.bk,O J f.c.slot,O J f.pl,O J f.cur,O J f.prev,O J f.slot,O J f.n,Y aK f.keys.length cK,.bool f.done,O J f.e]] W fun e w'=>e=.returned (.tuple #[O J (stN f),.bool false])/\Lk Xb w w' B lo aS aH aF aL cS cH cF cL M f aK cK):=fun W h=>by
  have:=Bo M f B _ _ _ _ cS cH cF cL aK cK W h.m.box hc1 hn1
  rw[hat0] at this
  exact this.mono (fun e w' h'=>⟨h'.1,h.below h'.2⟩)
 obtain⟨of,hof⟩:=frObj f aK cK
 obtain⟨oz,hoz⟩:∃ o:Obj,o=Ac:=⟨_,rfl⟩
 have HE:Hid (Lk Xb w ((w.alloc of).alloc oz) B lo aS aH aF aL cS cH cF cL M f aK cK):=Lk.first m f aK cK hof hoz
 obtain⟨q0,q1,q2,q3,q4,-,-,-,-,-,qs⟩:=Aj HE.out.m.box
 obtain⟨f0,f1,f2,f3,f4,f5,f6,f7,f8,f9,f10,f11,f12,f13,ff,fs⟩:=Aa HE.out.fb
 unfold Ac at hoz
 clear m hM hf hns hcur hc1 hn1 hat0
 go_enter Tryz.func209,Tryz.ntmps209
 go_wp2_with fail
 rw[<- hof,<- hoz]
 generalize (w.alloc of).alloc oz=W0 at *
 subst hof hoz
 clear q0 q1 q2 q3 q4 qs
 clear f0 f1 f2 f3 f4 f5 f6 f7 f8 f9 f10 f11 f12 f13 ff fs
 refine(HSt.out _ (by exact HE.out.below ⟨rfl,rfl,rfl,Nat.le_refl _,fun _ _=>rfl⟩)).mono ?_
 rintro e w1 ⟨rfl,h9⟩
 have HE1:Hid (Lk Xb w w1 B lo aS aH aF aL cS cH cF cL M f aK cK):=h9
 clear HE h9
 obtain⟨f0,f1,f2,f3,f4,f5,f6,f7,f8,f9,f10,f11,f12,f13,ff,fs⟩:=Aa HE1.out.fb
 obtain⟨g0,g1,g2,g3,g4,g5,g6,g7,g8,g9,g10,g11,g12,g13,gf,gs⟩:=Aa HE1.out.zb
 go_wp2
 refine bodyPost_ret (v:=.tuple #[.agg #[O J f.c.kind,O J f.c.a,O J f.c.b,O J f.c.time,O J f.c.bk,O J f.c.slot,O J f.pl,O J f.cur,O J f.prev,O J f.slot,O J f.n,Y aK f.keys.length cK,.bool f.done,O J f.e],.bool false]) (by simp[results,Tryz.results209,go_sem,g0,g1,g2,g3,g4,g5,g6,g7,g8,g9,g10,g11,g12,g13]) rfl ⟨rfl,HE1.out.Ah⟩
end
end Go.Proofs.YthhgoenomehobaaGreat.mm
