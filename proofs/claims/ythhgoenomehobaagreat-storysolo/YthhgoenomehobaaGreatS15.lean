/- Parts. -/
import Derived.Test.YthhgoenomehobaaGreatS09
import Derived.Test.YthhgoenomehobaaGreatS10
import Derived.Test.YthhgoenomehobaaGreatS06
namespace Go.Proofs.YthhgoenomehobaaGreat.mm
set_option maxRecDepth 100000
set_option linter.unusedVariables false
open Go.Value renaming int → O, slice → Y
open Go.IntKind renaming i64 → J
section
open Go.ChangeShapes Go.WideShapes Go.ChangeAt Go.RowKit Go.Joins Go.Deep Go.Sort
variable {Xb:Ex}
set_option maxHeartbeats 3200000 in
theorem a5q(M:Mm)(f:Fr)(B lo:Nat)(aS aH aF aL:Option Addr)(cS cH cF cL:Nat)(aK:Option Addr)(cK:Nat)(w:World)
  (m:Mine Xb w B lo aS aH aF aL cS cH cF cL M) (hM:Ok M) (hf:Fit M f) (r:Ag w aK cK f.keys) (hz:∀ ad,aK=some ad->¬ A8 B aS aH aF aL ad.block) :
  Calls Tryz.prog 178 #[.pointer (some ⟨B,0,none⟩),.agg #[O J f.c.kind,O J f.c.a,O J f.c.b,O J f.c.time,O J f.c.bk,O J f.c.slot,O J f.pl,O J f.cur,O J f.prev,O J f.slot,O J f.n,Y aK f.keys.length cK,.bool f.done,O J f.e]] w fun e w'=>Ret w w' e (Om M f) aK cK/\Has Xb w' B lo (Up w (A8 B aS aH aF aL)) (O3 M f)/\Fine w w' (A8 B aS aH aF aL):=by
 have hns:=hM.ns
 have hnh:=hM.nh.2
 have hcur:=hf.cur.2
 have hc1:f.cur<=1000:=by omega
 have hn1:M.slots.length<=1000:=by omega
 have HOk:Hid (Ok M):=hM
 have HR:Hid (Ag w aK cK f.keys):=r
 cases hsl:Be M f.slot
 ·have hres:Om M f=Am f:=by unfold Om;rw[hsl];rfl
  have hresM:O3 M f=D8 M f:=rfl
  have hlet:Dh M f=f:=by unfold Dh;rw[hsl];rfl
  rw[hres,hresM]
  have HLt:Hid (∀ (W:World),Lk Xb w W B lo aS aH aF aL cS cH cF cL M f aK cK->Calls Tryz.prog 202 #[.pointer (some ⟨B,0,none⟩),.agg #[O J f.c.kind,O J f.c.a,O J f.c.b,O J f.c.time,O J f.c.bk,O J f.c.slot,O J f.pl,O J f.cur,O J f.prev,O J f.slot,O J f.n,Y aK f.keys.length cK,.bool f.done,O J f.e]] W fun e w'=>e=.returned (.tuple #[.agg #[O J f.c.kind,O J f.c.a,O J f.c.b,O J f.c.time,O J f.c.bk,O J f.c.slot,O J f.pl,O J f.cur,O J f.prev,O J f.slot,O J f.n,Y aK f.keys.length cK,.bool f.done,O J f.e],.bool false])/\Lk2 Xb w w' (A8 B aS aH aF aL) B lo (D8 M f) f aK cK):=fun W h=>by
   have:=Ir M f B lo aS aH aF aL cS cH cF cL aK cK W h.m HOk.out
   rw[hlet,hsl] at this
   exact this.mono (fun e w' h'=>⟨h'.1,h.after h'.2.1 h'.2.2⟩)
  generalize D8 M f=M' at *
  have HZ:Hid (∀ ad,aK=some ad->¬ (A8 B aS aH aF aL) ad.block):=hz
  obtain⟨of,hof⟩:=frObj f aK cK
  obtain⟨oz,hoz⟩:∃ o:Obj,o=Ac:=⟨_,rfl⟩
  have HE:Hid (Lk Xb w ((w.alloc of).alloc oz) B lo aS aH aF aL cS cH cF cL M f aK cK):=Lk.first m f aK cK hof hoz
  obtain⟨q0,q1,q2,q3,q4,-,-,-,-,-,qs⟩:=Aj HE.out.m.box
  obtain⟨f0,f1,f2,f3,f4,f5,f6,f7,f8,f9,f10,f11,f12,f13,ff,fs⟩:=Aa HE.out.fb
  unfold Ac at hoz
  clear m hc1 hn1 hcur hns hnh hM hf r hz hsl hres hresM hlet
  go_enter Tryz.func178,Tryz.ntmps178
  go_wp2_with fail
  rw[<- hof,<- hoz]
  generalize (w.alloc of).alloc oz=W0 at *
  subst hof hoz
  clear q0 q1 q2 q3 q4 qs
  clear f0 f1 f2 f3 f4 f5 f6 f7 f8 f9 f10 f11 f12 f13 ff fs
  refine(HLt.out _ (by exact HE.out.below ⟨rfl,rfl,rfl,Nat.le_refl _,fun _ _=>rfl⟩)).mono ?_
  rintro e w2 ⟨rfl,h9⟩
  have HE2:Hid (Lk2 Xb w w2 (A8 B aS aH aF aL) B lo M' f aK cK):=h9
  clear HE h9
  obtain⟨f0,f1,f2,f3,f4,f5,f6,f7,f8,f9,f10,f11,f12,f13,ff,fs⟩:=Aa HE2.out.fb
  go_wp2_with fail
  have HE3:Hid (Lk2 Xb w _ (A8 B aS aH aF aL) B lo M' f aK cK):=HE2.out.all f
  clear HE2
  refine(Tc f aK cK _).mono ?_
  rintro e w9 ⟨rfl,hb9⟩
  have HE9:Hid (Lk2 Xb w w9 (A8 B aS aH aF aL) B lo M' f aK cK):=HE3.out.below hb9
  clear HE3 hb9
  clear f0 f1 f2 f3 f4 f5 f6 f7 f8 f9 f10 f11 f12 f13 ff fs
  obtain⟨g0,g1,g2,g3,g4,g5,g6,g7,g8,g9,g10,g11,g12,g13,gf,gs⟩:=Aa HE9.out.zb
  go_wp2
  refine bodyPost_ret (v:=.agg #[O J (Am f).c.kind,O J (Am f).c.a,O J (Am f).c.b,O J (Am f).c.time,O J (Am f).c.bk,O J (Am f).c.slot,O J (Am f).pl,O J (Am f).cur,O J (Am f).prev,O J (Am f).slot,O J (Am f).n,Y aK (Am f).keys.length cK,.bool (Am f).done,O J (Am f).e]) (by simp[results,Tryz.results178,go_sem,Am,g0,g1,g2,g3,g4,g5,g6,g7,g8,g9,g10,g11,g12,g13]) rfl ⟨⟨aK,cK,rfl,HR.out.fine HE9.out.Ah.2 HZ.out,(fun ad h=>.inl h),fun _=>⟨rfl,rfl⟩⟩,HE9.out.Ah⟩
 ·obtain⟨g,hg⟩:∃ g,g=Dh M f:=⟨_,rfl⟩
  have hg2:Dh M f = { f with slot:=-1 }:=by unfold Dh;rw[hsl];rfl
  have hkeys:g.keys=f.keys:=by rw[hg,hg2]
  have hres:Om M f = { g with e:=6,pl:=7 }:=by unfold Om;rw[hsl,hg,hg2];rfl
  have hresM:O3 M f=D8 M f:=rfl
  have hlet:Dh M f=g:=hg.symm
  rw[hres,hresM]
  have HLt:Hid (∀ (W:World),Lk Xb w W B lo aS aH aF aL cS cH cF cL M f aK cK->Calls Tryz.prog 202 #[.pointer (some ⟨B,0,none⟩),.agg #[O J f.c.kind,O J f.c.a,O J f.c.b,O J f.c.time,O J f.c.bk,O J f.c.slot,O J f.pl,O J f.cur,O J f.prev,O J f.slot,O J f.n,Y aK f.keys.length cK,.bool f.done,O J f.e]] W fun e w'=>e=.returned (.tuple #[.agg #[O J g.c.kind,O J g.c.a,O J g.c.b,O J g.c.time,O J g.c.bk,O J g.c.slot,O J g.pl,O J g.cur,O J g.prev,O J g.slot,O J g.n,Y aK g.keys.length cK,.bool g.done,O J g.e],.bool true])/\Lk2 Xb w w' (A8 B aS aH aF aL) B lo (D8 M f) f aK cK):=fun W h=>by
   have:=Ir M f B lo aS aH aF aL cS cH cF cL aK cK W h.m HOk.out
   rw[hlet,hsl] at this
   exact this.mono (fun e w' h'=>⟨h'.1,h.after h'.2.1 h'.2.2⟩)
  generalize D8 M f=M' at *
  rw[<- hkeys] at HR
  have HZ:Hid (∀ ad,aK=some ad->¬ (A8 B aS aH aF aL) ad.block):=hz
  obtain⟨of,hof⟩:=frObj f aK cK
  obtain⟨oz,hoz⟩:∃ o:Obj,o=Ac:=⟨_,rfl⟩
  have HE:Hid (Lk Xb w ((w.alloc of).alloc oz) B lo aS aH aF aL cS cH cF cL M f aK cK):=Lk.first m f aK cK hof hoz
  obtain⟨q0,q1,q2,q3,q4,-,-,-,-,-,qs⟩:=Aj HE.out.m.box
  obtain⟨f0,f1,f2,f3,f4,f5,f6,f7,f8,f9,f10,f11,f12,f13,ff,fs⟩:=Aa HE.out.fb
  unfold Ac at hoz
  clear m hc1 hn1 hcur hns hnh hM hf r hz hsl hres hresM hlet hg hg2 hkeys
  go_enter Tryz.func178,Tryz.ntmps178
  go_wp2_with fail
  rw[<- hof,<- hoz]
  generalize (w.alloc of).alloc oz=W0 at *
  subst hof hoz
  clear q0 q1 q2 q3 q4 qs
  clear f0 f1 f2 f3 f4 f5 f6 f7 f8 f9 f10 f11 f12 f13 ff fs
  rename_i K1 hK1 K0 hK0
  have HK1:Hid _:=hK1
  clear hK1
  refine(HLt.out _ (by exact HE.out.below ⟨rfl,rfl,rfl,Nat.le_refl _,fun _ _=>rfl⟩)).mono ?_
  rintro e w2 ⟨rfl,h9⟩
  have HE2:Hid (Lk2 Xb w w2 (A8 B aS aH aF aL) B lo M' f aK cK):=h9
  clear HE h9
  obtain⟨f0,f1,f2,f3,f4,f5,f6,f7,f8,f9,f10,f11,f12,f13,ff,fs⟩:=Aa HE2.out.fb
  go_wp2_with fail
  refine(fun (H:∀ W3:World,Lk2 Xb w W3 (A8 B aS aH aF aL) B lo M' g aK cK->K1 _ W3)=>H _ (HE2.out.all g)) ?_
  clear HE2
  clear f0 f1 f2 f3 f4 f5 f6 f7 f8 f9 f10 f11 f12 f13 ff fs
  intro w3 h3
  have HE3:Hid (Lk2 Xb w w3 (A8 B aS aH aF aL) B lo M' g aK cK):=h3
  clear h3
  refine HK1.out _ _ ?_
  clear HK1
  obtain⟨f0,f1,f2,f3,f4,f5,f6,f7,f8,f9,f10,f11,f12,f13,ff,fs⟩:=Aa HE3.out.fb
  go_wp2_with fail
  have HE4:Hid (Lk2 Xb w _ (A8 B aS aH aF aL) B lo M' { g with e:=6 } aK cK):=HE3.out.store 13 (O J 6) { g with e:=6 } rfl
  clear HE3
  refine(Cc { g with e:=6 } 7 aK cK _).mono ?_
  rintro e w9 ⟨rfl,hb9⟩
  have HE9:Hid (Lk2 Xb w w9 (A8 B aS aH aF aL) B lo M' { g with e:=6 } aK cK):=HE4.out.below hb9
  clear HE4 hb9
  clear f0 f1 f2 f3 f4 f5 f6 f7 f8 f9 f10 f11 f12 f13 ff fs
  obtain⟨g0,g1,g2,g3,g4,g5,g6,g7,g8,g9,g10,g11,g12,g13,gf,gs⟩:=Aa HE9.out.zb
  go_wp2
  refine bodyPost_ret (v:=.agg #[O J ({ g with e:=6,pl:=7 }).c.kind,O J ({ g with e:=6,pl:=7 }).c.a,O J ({ g with e:=6,pl:=7 }).c.b,O J ({ g with e:=6,pl:=7 }).c.time,O J ({ g with e:=6,pl:=7 }).c.bk,O J ({ g with e:=6,pl:=7 }).c.slot,O J ({ g with e:=6,pl:=7 }).pl,O J ({ g with e:=6,pl:=7 }).cur,O J ({ g with e:=6,pl:=7 }).prev,O J ({ g with e:=6,pl:=7 }).slot,O J ({ g with e:=6,pl:=7 }).n,Y aK ({ g with e:=6,pl:=7 }).keys.length cK,.bool ({ g with e:=6,pl:=7 }).done,O J ({ g with e:=6,pl:=7 }).e]) (by simp[results,Tryz.results178,go_sem,toF,g0,g1,g2,g3,g4,g5,g6,g7,g8,g9,g10,g11,g12,g13]) rfl ⟨⟨aK,cK,rfl,HR.out.fine HE9.out.Ah.2 HZ.out,(fun ad h=>.inl h),fun _=>⟨rfl,rfl⟩⟩,HE9.out.Ah⟩
end
section
open Go.ChangeShapes Go.WideShapes Go.ChangeAt Go.RowKit Go.Joins Go.Deep Go.Sort
variable {Xb:Ex}
set_option maxHeartbeats 1600000 in
theorem b3z(t:Int)(M M':Mm)(g:Fr)(c:Cl)(cur prev slot nn ee:Int)(keys:List (Int × Int))(B lo:Nat)(aS aH aF aL:Option Addr)(cS cH cF cL:Nat)(aK:Option Addr)(cK:Nat)(w:World)
  (m:Mine Xb w B lo aS aH aF aL cS cH cF cL M) (HR:Hid (Ag w aK cK keys)) (HKy:Hid (g.keys=keys))
  (HP:Hid (∀ (W:World),Mine Xb W B lo aS aH aF aL cS cH cF cL M->Ag W aK cK keys->Calls Tryz.prog 172 #[.pointer (some ⟨B,0,none⟩),.agg #[O J c.kind,O J c.a,O J c.b,O J c.time,O J c.bk,O J c.slot,O J 0,O J cur,O J prev,O J slot,O J nn,Y aK keys.length cK,.bool false,O J ee]] W fun e w'=>Ret W w' e g aK cK/\Has Xb w' B lo (Up W (A8 B aS aH aF aL)) M'/\Fine W w' (A8 B aS aH aF aL))) :
  Calls Tryz.prog 159 #[.pointer (some ⟨B,0,none⟩),.agg #[O J c.kind,O J c.a,O J c.b,O J c.time,O J c.bk,O J c.slot,O J 0,O J cur,O J prev,O J slot,O J nn,Y aK keys.length cK,.bool false,O J ee],O J t] w fun e w'=>Ret w w' e g aK cK/\Has Xb w' B lo (Up w (A8 B aS aH aF aL)) M'/\Fine w w' (A8 B aS aH aF aL):=by
 obtain⟨of,hof⟩:∃ o:Obj,o=.cells #[O J c.kind,O J c.a,O J c.b,O J c.time,O J c.bk,O J c.slot,O J 0,O J cur,O J prev,O J slot,O J nn,Y aK keys.length cK,.bool false,O J ee] 47:=⟨_,rfl⟩
 obtain⟨oz,hoz⟩:∃ o:Obj,o=Ac:=⟨_,rfl⟩
 have HE:Hid (Lk Xb w ((w.alloc of).alloc oz) B lo aS aH aF aL cS cH cF cL M ⟨c,0,cur,prev,slot,nn,keys,false,ee⟩ aK cK):=Lk.first m ⟨c,0,cur,prev,slot,nn,keys,false,ee⟩ aK cK hof hoz
 obtain⟨f0,f1,f2,f3,f4,f5,f6,f7,f8,f9,f10,f11,f12,f13,ff,fs⟩:=Aa (show ((w.alloc of).alloc oz).heap[w.heap.size]?=some (.cells #[O J c.kind,O J c.a,O J c.b,O J c.time,O J c.bk,O J c.slot,O J 0,O J cur,O J prev,O J slot,O J nn,Y aK keys.length cK,.bool false,O J ee] 47 (0,0)) from HE.out.fb)
 unfold Ac at hoz
 clear m
 go_enter Tryz.func159,Tryz.ntmps159
 go_wp2_with fail
 rw[<- hof,<- hoz]
 generalize (w.alloc of).alloc oz=W0 at *
 subst hof hoz
 have HE1:Hid (Lk Xb w W0 B lo aS aH aF aL cS cH cF cL M ⟨c,0,cur,prev,slot,nn,keys,false,ee⟩ aK cK):=HE.out
 clear HE
 clear f0 f1 f2 f3 f4 f5 f6 f7 f8 f9 f10 f11 f12 f13 ff fs
 refine(HP.out _ HE1.out.m (HR.out.below HE1.out.bl)).mono ?_
 rintro e w2 ⟨⟨a2,c2,rfl,hr2,hl2,hd2⟩,hh2,hf2⟩
 have HK2:Hid (Ag w2 a2 c2 keys/\∀ ad,a2=some ad->aK=some ad\/w.heap.size+2<=ad.block):=⟨HKy.out ▸ hr2,fun ad h=>(hl2 ad h).imp id (fun h'=>Nat.le_trans (lt_of_block HE1.out.zb) h')⟩
 have HD2:Hid (g.done=false->a2=aK/\c2=cK):=hd2
 have HE2:Hid (Lk2 Xb w w2 (A8 B aS aH aF aL) B lo M' ⟨c,0,cur,prev,slot,nn,keys,false,ee⟩ aK cK):=HE1.out.after hh2 hf2
 clear HE1 hh2 hf2 hr2 hl2 hd2
 obtain⟨g0,g1,g2,g3,g4,g5,g6,g7,g8,g9,g10,g11,g12,g13,gf,gs⟩:=Aa HE2.out.zb
 go_wp2
 refine bodyPost_ret (v:=.agg #[O J g.c.kind,O J g.c.a,O J g.c.b,O J g.c.time,O J g.c.bk,O J g.c.slot,O J g.pl,O J g.cur,O J g.prev,O J g.slot,O J g.n,Y a2 g.keys.length c2,.bool g.done,O J g.e]) (by simp[results,Tryz.results159,go_sem,g0,g1,g2,g3,g4,g5,g6,g7,g8,g9,g10,g11,g12,g13]) rfl ⟨⟨a2,c2,rfl,by rw[HKy.out];exact Ez rfl HK2.out.1 HR.out HK2.out.2,(fun ad h=>(HK2.out.2 ad h).imp id (fun h'=>by omega)),HD2.out⟩,HE2.out.Ah⟩
set_option maxHeartbeats 1600000 in
theorem b4a(t:Int)(M M':Mm)(g:Fr)(c:Cl)(cur prev slot nn ee:Int)(keys:List (Int × Int))(B lo:Nat)(aS aH aF aL:Option Addr)(cS cH cF cL:Nat)(aK:Option Addr)(cK:Nat)(w:World)
  (m:Mine Xb w B lo aS aH aF aL cS cH cF cL M) (HR:Hid (Ag w aK cK keys)) (HKy:Hid (g.keys=keys))
  (HP:Hid (∀ (W:World),Mine Xb W B lo aS aH aF aL cS cH cF cL M->Ag W aK cK keys->Calls Tryz.prog 173 #[.pointer (some ⟨B,0,none⟩),.agg #[O J c.kind,O J c.a,O J c.b,O J c.time,O J c.bk,O J c.slot,O J 1,O J cur,O J prev,O J slot,O J nn,Y aK keys.length cK,.bool false,O J ee],O J t] W fun e w'=>Ret W w' e g aK cK/\Has Xb w' B lo (Up W (A8 B aS aH aF aL)) M'/\Fine W w' (A8 B aS aH aF aL))) :
  Calls Tryz.prog 159 #[.pointer (some ⟨B,0,none⟩),.agg #[O J c.kind,O J c.a,O J c.b,O J c.time,O J c.bk,O J c.slot,O J 1,O J cur,O J prev,O J slot,O J nn,Y aK keys.length cK,.bool false,O J ee],O J t] w fun e w'=>Ret w w' e g aK cK/\Has Xb w' B lo (Up w (A8 B aS aH aF aL)) M'/\Fine w w' (A8 B aS aH aF aL):=by
 obtain⟨of,hof⟩:∃ o:Obj,o=.cells #[O J c.kind,O J c.a,O J c.b,O J c.time,O J c.bk,O J c.slot,O J 1,O J cur,O J prev,O J slot,O J nn,Y aK keys.length cK,.bool false,O J ee] 47:=⟨_,rfl⟩
 obtain⟨oz,hoz⟩:∃ o:Obj,o=Ac:=⟨_,rfl⟩
 have HE:Hid (Lk Xb w ((w.alloc of).alloc oz) B lo aS aH aF aL cS cH cF cL M ⟨c,1,cur,prev,slot,nn,keys,false,ee⟩ aK cK):=Lk.first m ⟨c,1,cur,prev,slot,nn,keys,false,ee⟩ aK cK hof hoz
 obtain⟨f0,f1,f2,f3,f4,f5,f6,f7,f8,f9,f10,f11,f12,f13,ff,fs⟩:=Aa (show ((w.alloc of).alloc oz).heap[w.heap.size]?=some (.cells #[O J c.kind,O J c.a,O J c.b,O J c.time,O J c.bk,O J c.slot,O J 1,O J cur,O J prev,O J slot,O J nn,Y aK keys.length cK,.bool false,O J ee] 47 (0,0)) from HE.out.fb)
 unfold Ac at hoz
 clear m
 go_enter Tryz.func159,Tryz.ntmps159
 go_wp2_with fail
 rw[<- hof,<- hoz]
 generalize (w.alloc of).alloc oz=W0 at *
 subst hof hoz
 have HE1:Hid (Lk Xb w W0 B lo aS aH aF aL cS cH cF cL M ⟨c,1,cur,prev,slot,nn,keys,false,ee⟩ aK cK):=HE.out
 clear HE
 clear f0 f1 f2 f3 f4 f5 f6 f7 f8 f9 f10 f11 f12 f13 ff fs
 refine(HP.out _ HE1.out.m (HR.out.below HE1.out.bl)).mono ?_
 rintro e w2 ⟨⟨a2,c2,rfl,hr2,hl2,hd2⟩,hh2,hf2⟩
 have HK2:Hid (Ag w2 a2 c2 keys/\∀ ad,a2=some ad->aK=some ad\/w.heap.size+2<=ad.block):=⟨HKy.out ▸ hr2,fun ad h=>(hl2 ad h).imp id (fun h'=>Nat.le_trans (lt_of_block HE1.out.zb) h')⟩
 have HD2:Hid (g.done=false->a2=aK/\c2=cK):=hd2
 have HE2:Hid (Lk2 Xb w w2 (A8 B aS aH aF aL) B lo M' ⟨c,1,cur,prev,slot,nn,keys,false,ee⟩ aK cK):=HE1.out.after hh2 hf2
 clear HE1 hh2 hf2 hr2 hl2 hd2
 obtain⟨g0,g1,g2,g3,g4,g5,g6,g7,g8,g9,g10,g11,g12,g13,gf,gs⟩:=Aa HE2.out.zb
 go_wp2
 refine bodyPost_ret (v:=.agg #[O J g.c.kind,O J g.c.a,O J g.c.b,O J g.c.time,O J g.c.bk,O J g.c.slot,O J g.pl,O J g.cur,O J g.prev,O J g.slot,O J g.n,Y a2 g.keys.length c2,.bool g.done,O J g.e]) (by simp[results,Tryz.results159,go_sem,g0,g1,g2,g3,g4,g5,g6,g7,g8,g9,g10,g11,g12,g13]) rfl ⟨⟨a2,c2,rfl,by rw[HKy.out];exact Ez rfl HK2.out.1 HR.out HK2.out.2,(fun ad h=>(HK2.out.2 ad h).imp id (fun h'=>by omega)),HD2.out⟩,HE2.out.Ah⟩
set_option maxHeartbeats 1600000 in
theorem b4b(t:Int)(M M':Mm)(g:Fr)(c:Cl)(cur prev slot nn ee:Int)(keys:List (Int × Int))(B lo:Nat)(aS aH aF aL:Option Addr)(cS cH cF cL:Nat)(aK:Option Addr)(cK:Nat)(w:World)
  (m:Mine Xb w B lo aS aH aF aL cS cH cF cL M) (HR:Hid (Ag w aK cK keys)) (HKy:Hid (g.keys=keys))
  (HP:Hid (∀ (W:World),Mine Xb W B lo aS aH aF aL cS cH cF cL M->Ag W aK cK keys->Calls Tryz.prog 174 #[.pointer (some ⟨B,0,none⟩),.agg #[O J c.kind,O J c.a,O J c.b,O J c.time,O J c.bk,O J c.slot,O J 2,O J cur,O J prev,O J slot,O J nn,Y aK keys.length cK,.bool false,O J ee]] W fun e w'=>Ret W w' e g aK cK/\Has Xb w' B lo (Up W (A8 B aS aH aF aL)) M'/\Fine W w' (A8 B aS aH aF aL))) :
  Calls Tryz.prog 159 #[.pointer (some ⟨B,0,none⟩),.agg #[O J c.kind,O J c.a,O J c.b,O J c.time,O J c.bk,O J c.slot,O J 2,O J cur,O J prev,O J slot,O J nn,Y aK keys.length cK,.bool false,O J ee],O J t] w fun e w'=>Ret w w' e g aK cK/\Has Xb w' B lo (Up w (A8 B aS aH aF aL)) M'/\Fine w w' (A8 B aS aH aF aL):=by
 obtain⟨of,hof⟩:∃ o:Obj,o=.cells #[O J c.kind,O J c.a,O J c.b,O J c.time,O J c.bk,O J c.slot,O J 2,O J cur,O J prev,O J slot,O J nn,Y aK keys.length cK,.bool false,O J ee] 47:=⟨_,rfl⟩
 obtain⟨oz,hoz⟩:∃ o:Obj,o=Ac:=⟨_,rfl⟩
 have HE:Hid (Lk Xb w ((w.alloc of).alloc oz) B lo aS aH aF aL cS cH cF cL M ⟨c,2,cur,prev,slot,nn,keys,false,ee⟩ aK cK):=Lk.first m ⟨c,2,cur,prev,slot,nn,keys,false,ee⟩ aK cK hof hoz
 obtain⟨f0,f1,f2,f3,f4,f5,f6,f7,f8,f9,f10,f11,f12,f13,ff,fs⟩:=Aa (show ((w.alloc of).alloc oz).heap[w.heap.size]?=some (.cells #[O J c.kind,O J c.a,O J c.b,O J c.time,O J c.bk,O J c.slot,O J 2,O J cur,O J prev,O J slot,O J nn,Y aK keys.length cK,.bool false,O J ee] 47 (0,0)) from HE.out.fb)
 unfold Ac at hoz
 clear m
 go_enter Tryz.func159,Tryz.ntmps159
 go_wp2_with fail
 rw[<- hof,<- hoz]
 generalize (w.alloc of).alloc oz=W0 at *
 subst hof hoz
 have HE1:Hid (Lk Xb w W0 B lo aS aH aF aL cS cH cF cL M ⟨c,2,cur,prev,slot,nn,keys,false,ee⟩ aK cK):=HE.out
 clear HE
 clear f0 f1 f2 f3 f4 f5 f6 f7 f8 f9 f10 f11 f12 f13 ff fs
 refine(HP.out _ HE1.out.m (HR.out.below HE1.out.bl)).mono ?_
 rintro e w2 ⟨⟨a2,c2,rfl,hr2,hl2,hd2⟩,hh2,hf2⟩
 have HK2:Hid (Ag w2 a2 c2 keys/\∀ ad,a2=some ad->aK=some ad\/w.heap.size+2<=ad.block):=⟨HKy.out ▸ hr2,fun ad h=>(hl2 ad h).imp id (fun h'=>Nat.le_trans (lt_of_block HE1.out.zb) h')⟩
 have HD2:Hid (g.done=false->a2=aK/\c2=cK):=hd2
 have HE2:Hid (Lk2 Xb w w2 (A8 B aS aH aF aL) B lo M' ⟨c,2,cur,prev,slot,nn,keys,false,ee⟩ aK cK):=HE1.out.after hh2 hf2
 clear HE1 hh2 hf2 hr2 hl2 hd2
 obtain⟨g0,g1,g2,g3,g4,g5,g6,g7,g8,g9,g10,g11,g12,g13,gf,gs⟩:=Aa HE2.out.zb
 go_wp2
 refine bodyPost_ret (v:=.agg #[O J g.c.kind,O J g.c.a,O J g.c.b,O J g.c.time,O J g.c.bk,O J g.c.slot,O J g.pl,O J g.cur,O J g.prev,O J g.slot,O J g.n,Y a2 g.keys.length c2,.bool g.done,O J g.e]) (by simp[results,Tryz.results159,go_sem,g0,g1,g2,g3,g4,g5,g6,g7,g8,g9,g10,g11,g12,g13]) rfl ⟨⟨a2,c2,rfl,by rw[HKy.out];exact Ez rfl HK2.out.1 HR.out HK2.out.2,(fun ad h=>(HK2.out.2 ad h).imp id (fun h'=>by omega)),HD2.out⟩,HE2.out.Ah⟩
set_option maxHeartbeats 1600000 in
theorem b4c(t:Int)(M M':Mm)(g:Fr)(c:Cl)(cur prev slot nn ee:Int)(keys:List (Int × Int))(B lo:Nat)(aS aH aF aL:Option Addr)(cS cH cF cL:Nat)(aK:Option Addr)(cK:Nat)(w:World)
  (m:Mine Xb w B lo aS aH aF aL cS cH cF cL M) (HR:Hid (Ag w aK cK keys)) (HKy:Hid (g.keys=keys))
  (HP:Hid (∀ (W:World),Mine Xb W B lo aS aH aF aL cS cH cF cL M->Ag W aK cK keys->Calls Tryz.prog 175 #[.pointer (some ⟨B,0,none⟩),.agg #[O J c.kind,O J c.a,O J c.b,O J c.time,O J c.bk,O J c.slot,O J 3,O J cur,O J prev,O J slot,O J nn,Y aK keys.length cK,.bool false,O J ee]] W fun e w'=>Ret W w' e g aK cK/\Has Xb w' B lo (Up W (A8 B aS aH aF aL)) M'/\Fine W w' (A8 B aS aH aF aL))) :
  Calls Tryz.prog 159 #[.pointer (some ⟨B,0,none⟩),.agg #[O J c.kind,O J c.a,O J c.b,O J c.time,O J c.bk,O J c.slot,O J 3,O J cur,O J prev,O J slot,O J nn,Y aK keys.length cK,.bool false,O J ee],O J t] w fun e w'=>Ret w w' e g aK cK/\Has Xb w' B lo (Up w (A8 B aS aH aF aL)) M'/\Fine w w' (A8 B aS aH aF aL):=by
 obtain⟨of,hof⟩:∃ o:Obj,o=.cells #[O J c.kind,O J c.a,O J c.b,O J c.time,O J c.bk,O J c.slot,O J 3,O J cur,O J prev,O J slot,O J nn,Y aK keys.length cK,.bool false,O J ee] 47:=⟨_,rfl⟩
 obtain⟨oz,hoz⟩:∃ o:Obj,o=Ac:=⟨_,rfl⟩
 have HE:Hid (Lk Xb w ((w.alloc of).alloc oz) B lo aS aH aF aL cS cH cF cL M ⟨c,3,cur,prev,slot,nn,keys,false,ee⟩ aK cK):=Lk.first m ⟨c,3,cur,prev,slot,nn,keys,false,ee⟩ aK cK hof hoz
 obtain⟨f0,f1,f2,f3,f4,f5,f6,f7,f8,f9,f10,f11,f12,f13,ff,fs⟩:=Aa (show ((w.alloc of).alloc oz).heap[w.heap.size]?=some (.cells #[O J c.kind,O J c.a,O J c.b,O J c.time,O J c.bk,O J c.slot,O J 3,O J cur,O J prev,O J slot,O J nn,Y aK keys.length cK,.bool false,O J ee] 47 (0,0)) from HE.out.fb)
 unfold Ac at hoz
 clear m
 go_enter Tryz.func159,Tryz.ntmps159
 go_wp2_with fail
 rw[<- hof,<- hoz]
 generalize (w.alloc of).alloc oz=W0 at *
 subst hof hoz
 have HE1:Hid (Lk Xb w W0 B lo aS aH aF aL cS cH cF cL M ⟨c,3,cur,prev,slot,nn,keys,false,ee⟩ aK cK):=HE.out
 clear HE
 clear f0 f1 f2 f3 f4 f5 f6 f7 f8 f9 f10 f11 f12 f13 ff fs
 refine(HP.out _ HE1.out.m (HR.out.below HE1.out.bl)).mono ?_
 rintro e w2 ⟨⟨a2,c2,rfl,hr2,hl2,hd2⟩,hh2,hf2⟩
 have HK2:Hid (Ag w2 a2 c2 keys/\∀ ad,a2=some ad->aK=some ad\/w.heap.size+2<=ad.block):=⟨HKy.out ▸ hr2,fun ad h=>(hl2 ad h).imp id (fun h'=>Nat.le_trans (lt_of_block HE1.out.zb) h')⟩
 have HD2:Hid (g.done=false->a2=aK/\c2=cK):=hd2
 have HE2:Hid (Lk2 Xb w w2 (A8 B aS aH aF aL) B lo M' ⟨c,3,cur,prev,slot,nn,keys,false,ee⟩ aK cK):=HE1.out.after hh2 hf2
 clear HE1 hh2 hf2 hr2 hl2 hd2
 obtain⟨g0,g1,g2,g3,g4,g5,g6,g7,g8,g9,g10,g11,g12,g13,gf,gs⟩:=Aa HE2.out.zb
 go_wp2
 refine bodyPost_ret (v:=.agg #[O J g.c.kind,O J g.c.a,O J g.c.b,O J g.c.time,O J g.c.bk,O J g.c.slot,O J g.pl,O J g.cur,O J g.prev,O J g.slot,O J g.n,Y a2 g.keys.length c2,.bool g.done,O J g.e]) (by simp[results,Tryz.results159,go_sem,g0,g1,g2,g3,g4,g5,g6,g7,g8,g9,g10,g11,g12,g13]) rfl ⟨⟨a2,c2,rfl,by rw[HKy.out];exact Ez rfl HK2.out.1 HR.out HK2.out.2,(fun ad h=>(HK2.out.2 ad h).imp id (fun h'=>by omega)),HD2.out⟩,HE2.out.Ah⟩
end
end Go.Proofs.YthhgoenomehobaaGreat.mm
