/- Parts. -/
import Derived.Test.YthhgoenomehobaaGreatS17
import Derived.Test.YthhgoenomehobaaGreatS10
import Derived.Test.YthhgoenomehobaaGreatS06
import Derived.Test.YthhgoenomehobaaGreatS04
namespace Go.Proofs.YthhgoenomehobaaGreat.mm
set_option maxRecDepth 100000
set_option linter.unusedVariables false
open Go.Value renaming int → O, slice → Y
open Go.IntKind renaming i64 → J
section
open Go.ChangeShapes Go.WideShapes Go.ChangeAt Go.RowKit Go.Joins Go.Deep Go.Sort
variable {Xb:Ex}
set_option maxHeartbeats 3200000 in
theorem b8n(M:Mm)(f:Fr)(B lo:Nat)(aS aH aF aL:Option Addr)(cS cH cF cL:Nat)(aK:Option Addr)(cK:Nat)(w:World)
  (m:Mine Xb w B lo aS aH aF aL cS cH cF cL M) (hM:Ok M) (hf:Fit M f) (r:Ag w aK cK f.keys) (hz:∀ ad,aK=some ad->¬ A8 B aS aH aF aL ad.block) :
  Calls Tryz.prog 187 #[.pointer (some ⟨B,0,none⟩),.agg #[O J f.c.kind,O J f.c.a,O J f.c.b,O J f.c.time,O J f.c.bk,O J f.c.slot,O J f.pl,O J f.cur,O J f.prev,O J f.slot,O J f.n,Y aK f.keys.length cK,.bool f.done,O J f.e]] w fun e w'=>Ret w w' e (Af { f with slot:=-1 } f.e) aK cK/\Has Xb w' B lo (Up w (A8 B aS aH aF aL)) (Gv M f)/\Fine w w' (A8 B aS aH aF aL):=by
 have hns:=hM.ns
 have hnh:=hM.nh.2
 have hcur:=hf.cur.2
 have hc1:f.cur<=1000:=by omega
 have hn1:M.slots.length<=1000:=by omega
 have HOk:Hid (Ok M):=hM
 have HR:Hid (Ag w aK cK f.keys):=r
 obtain⟨g,hg⟩:∃ g,g=Dh M f:=⟨_,rfl⟩
 obtain⟨bb,hbb⟩:∃ bb,Be M f.slot=bb:=⟨_,rfl⟩
 have hlet:Dh M f=g:=hg.symm
 have hgs:({ g with slot:=-1 }:Fr) = { f with slot:=-1 }:=by rw[hg];unfold Dh;split <;> rfl
 have hge:g.e=f.e:=by rw[hg];unfold Dh;split <;> rfl
 have hkeys:g.keys=f.keys:=by rw[hg];unfold Dh;split <;> rfl
 have hresM:Gv M f=D8 M f:=rfl
 rw[show Af { f with slot:=-1 } f.e=Af { g with slot:=-1 } g.e by rw[hgs,hge],hresM]
 have HLt:Hid (∀ (W:World),Lk Xb w W B lo aS aH aF aL cS cH cF cL M f aK cK->Calls Tryz.prog 202 #[.pointer (some ⟨B,0,none⟩),.agg #[O J f.c.kind,O J f.c.a,O J f.c.b,O J f.c.time,O J f.c.bk,O J f.c.slot,O J f.pl,O J f.cur,O J f.prev,O J f.slot,O J f.n,Y aK f.keys.length cK,.bool f.done,O J f.e]] W fun e w'=>e=.returned (.tuple #[.agg #[O J g.c.kind,O J g.c.a,O J g.c.b,O J g.c.time,O J g.c.bk,O J g.c.slot,O J g.pl,O J g.cur,O J g.prev,O J g.slot,O J g.n,Y aK g.keys.length cK,.bool g.done,O J g.e],.bool bb])/\Lk2 Xb w w' (A8 B aS aH aF aL) B lo (D8 M f) f aK cK):=fun W h=>by
  have:=Ir M f B lo aS aH aF aL cS cH cF cL aK cK W h.m HOk.out
  rw[hlet,hbb] at this
  exact this.mono (fun e w' h'=>⟨h'.1,h.after h'.2.1 h'.2.2⟩)
 generalize D8 M f=M' at *
 rw[<- hkeys] at HR
 have HZ:Hid (∀ ad,aK=some ad->¬ (A8 B aS aH aF aL) ad.block):=hz
 obtain⟨of,hof⟩:=frObj f aK cK
 obtain⟨oz,hoz⟩:∃ o:Obj,o=Ac:=⟨_,rfl⟩
 have HE:Hid (Lk Xb w ((w.alloc of).alloc oz) B lo aS aH aF aL cS cH cF cL M f aK cK):=Lk.first m f aK cK hof hoz
 obtain⟨q0,q1,q2,q3,q4,-,-,-,-,-,qs⟩:=Aj HE.out.m.box
 obtain⟨f0,f1,f2,f3,f4,f5,f6,f7,f8,f9,f10,f11,f12,f13,ff,fs⟩:=Aa HE.out.fb
 unfold Ac at hoz
 clear m hc1 hn1 hcur hns hnh hM hf r hz hresM hlet hg hgs hge hkeys hbb
 go_enter Tryz.func187,Tryz.ntmps187
 go_wp2_with fail
 rw[<- hof,<- hoz]
 generalize (w.alloc of).alloc oz=W0 at *
 subst hof hoz
 clear q0 q1 q2 q3 q4 qs
 clear f0 f1 f2 f3 f4 f5 f6 f7 f8 f9 f10 f11 f12 f13 ff fs
 rename_i K1 hK1 K0 hK0
 have HK1:Hid _:=hK1
 clear hK1
 refine(HLt.out _ (by exact HE.out.below ⟨rfl,rfl,rfl,Nat.le_refl _,fun _ _=>rfl⟩)).mono ?_
 rintro e w2 ⟨rfl,h9⟩
 have HE2:Hid (Lk2 Xb w w2 (A8 B aS aH aF aL) B lo M' f aK cK):=h9
 clear HE h9
 obtain⟨f0,f1,f2,f3,f4,f5,f6,f7,f8,f9,f10,f11,f12,f13,ff,fs⟩:=Aa HE2.out.fb
 go_wp2_with fail
 refine(fun (H:∀ W3:World,Lk2 Xb w W3 (A8 B aS aH aF aL) B lo M' g aK cK->K1 _ W3)=>H _ (HE2.out.all g)) ?_
 clear HE2
 clear f0 f1 f2 f3 f4 f5 f6 f7 f8 f9 f10 f11 f12 f13 ff fs
 intro w3 h3
 have HE3:Hid (Lk2 Xb w w3 (A8 B aS aH aF aL) B lo M' g aK cK):=h3
 clear h3
 refine HK1.out _ _ ?_
 clear HK1
 obtain⟨f0,f1,f2,f3,f4,f5,f6,f7,f8,f9,f10,f11,f12,f13,ff,fs⟩:=Aa HE3.out.fb
 go_wp2_with fail
 have HE4:Hid (Lk2 Xb w _ (A8 B aS aH aF aL) B lo M' { g with slot:=-1 } aK cK):=HE3.out.store 9 (O J (-1)) { g with slot:=-1 } rfl
 clear HE3
 refine(Np { g with slot:=-1 } g.e aK cK _ (HR.out.fine HE4.out.fine HZ.out)).mono ?_
 rintro e w9 ⟨a9,c9,rfl,hr9,hi9,hb9⟩
 have HK9:Hid (Ag w9 a9 c9 g.keys/\∀ ad,a9=some ad->w.heap.size+2<=ad.block):=⟨hr9,fun ad h=>Nat.le_trans (lt_of_block HE4.out.zb) (hi9 ad h)⟩
 have HE9:Hid (Lk2 Xb w w9 (A8 B aS aH aF aL) B lo M' { g with slot:=-1 } aK cK):=HE4.out.below hb9
 clear HE4 hb9 hr9 hi9
 clear f0 f1 f2 f3 f4 f5 f6 f7 f8 f9 f10 f11 f12 f13 ff fs
 obtain⟨g0,g1,g2,g3,g4,g5,g6,g7,g8,g9,g10,g11,g12,g13,gf,gs⟩:=Aa HE9.out.zb
 go_wp2
 refine bodyPost_ret (v:=.agg #[O J (Af { g with slot:=-1 } g.e).c.kind,O J (Af { g with slot:=-1 } g.e).c.a,O J (Af { g with slot:=-1 } g.e).c.b,O J (Af { g with slot:=-1 } g.e).c.time,O J (Af { g with slot:=-1 } g.e).c.bk,O J (Af { g with slot:=-1 } g.e).c.slot,O J (Af { g with slot:=-1 } g.e).pl,O J (Af { g with slot:=-1 } g.e).cur,O J (Af { g with slot:=-1 } g.e).prev,O J (Af { g with slot:=-1 } g.e).slot,O J (Af { g with slot:=-1 } g.e).n,Y a9 (Af { g with slot:=-1 } g.e).keys.length c9,.bool (Af { g with slot:=-1 } g.e).done,O J (Af { g with slot:=-1 } g.e).e]) (by simp[results,Tryz.results187,go_sem,Af,g0,g1,g2,g3,g4,g5,g6,g7,g8,g9,g10,g11,g12,g13]) rfl ⟨⟨a9,c9,rfl,Ua HK9.out.1 HK9.out.2,(fun ad h=>.inr (by have:=HK9.out.2 ad h;omega)),fun h=>by cases h⟩,HE9.out.Ah⟩
end
section
open Go.ChangeShapes Go.WideShapes Go.ChangeAt Go.RowKit Go.Joins Go.Deep Go.Sort
variable {Xb:Ex}
set_option maxHeartbeats 1600000 in
theorem b4y(t:Int)(M M':Mm)(g:Fr)(c:Cl)(cur prev slot nn ee:Int)(keys:List (Int × Int))(B lo:Nat)(aS aH aF aL:Option Addr)(cS cH cF cL:Nat)(aK:Option Addr)(cK:Nat)(w:World)
  (m:Mine Xb w B lo aS aH aF aL cS cH cF cL M) (HR:Hid (Ag w aK cK keys)) (HKy:Hid (g.keys=keys))
  (HP:Hid (∀ (W:World),Mine Xb W B lo aS aH aF aL cS cH cF cL M->Ag W aK cK keys->Calls Tryz.prog 181 #[.pointer (some ⟨B,0,none⟩),.agg #[O J c.kind,O J c.a,O J c.b,O J c.time,O J c.bk,O J c.slot,O J 0,O J cur,O J prev,O J slot,O J nn,Y aK keys.length cK,.bool false,O J ee],O J t] W fun e w'=>Ret W w' e g aK cK/\Has Xb w' B lo (Up W (A8 B aS aH aF aL)) M'/\Fine W w' (A8 B aS aH aF aL))) :
  Calls Tryz.prog 160 #[.pointer (some ⟨B,0,none⟩),.agg #[O J c.kind,O J c.a,O J c.b,O J c.time,O J c.bk,O J c.slot,O J 0,O J cur,O J prev,O J slot,O J nn,Y aK keys.length cK,.bool false,O J ee],O J t] w fun e w'=>Ret w w' e g aK cK/\Has Xb w' B lo (Up w (A8 B aS aH aF aL)) M'/\Fine w w' (A8 B aS aH aF aL):=by
 obtain⟨of,hof⟩:∃ o:Obj,o=.cells #[O J c.kind,O J c.a,O J c.b,O J c.time,O J c.bk,O J c.slot,O J 0,O J cur,O J prev,O J slot,O J nn,Y aK keys.length cK,.bool false,O J ee] 47:=⟨_,rfl⟩
 obtain⟨oz,hoz⟩:∃ o:Obj,o=Ac:=⟨_,rfl⟩
 have HE:Hid (Lk Xb w ((w.alloc of).alloc oz) B lo aS aH aF aL cS cH cF cL M ⟨c,0,cur,prev,slot,nn,keys,false,ee⟩ aK cK):=Lk.first m ⟨c,0,cur,prev,slot,nn,keys,false,ee⟩ aK cK hof hoz
 obtain⟨f0,f1,f2,f3,f4,f5,f6,f7,f8,f9,f10,f11,f12,f13,ff,fs⟩:=Aa (show ((w.alloc of).alloc oz).heap[w.heap.size]?=some (.cells #[O J c.kind,O J c.a,O J c.b,O J c.time,O J c.bk,O J c.slot,O J 0,O J cur,O J prev,O J slot,O J nn,Y aK keys.length cK,.bool false,O J ee] 47 (0,0)) from HE.out.fb)
 unfold Ac at hoz
 clear m
 go_enter Tryz.func160,Tryz.ntmps160
 go_wp2_with fail
 rw[<- hof,<- hoz]
 generalize (w.alloc of).alloc oz=W0 at *
 subst hof hoz
 have HE1:Hid (Lk Xb w W0 B lo aS aH aF aL cS cH cF cL M ⟨c,0,cur,prev,slot,nn,keys,false,ee⟩ aK cK):=HE.out
 clear HE
 clear f0 f1 f2 f3 f4 f5 f6 f7 f8 f9 f10 f11 f12 f13 ff fs
 refine(HP.out _ HE1.out.m (HR.out.below HE1.out.bl)).mono ?_
 rintro e w2 ⟨⟨a2,c2,rfl,hr2,hl2,hd2⟩,hh2,hf2⟩
 have HK2:Hid (Ag w2 a2 c2 keys/\∀ ad,a2=some ad->aK=some ad\/w.heap.size+2<=ad.block):=⟨HKy.out ▸ hr2,fun ad h=>(hl2 ad h).imp id (fun h'=>Nat.le_trans (lt_of_block HE1.out.zb) h')⟩
 have HD2:Hid (g.done=false->a2=aK/\c2=cK):=hd2
 have HE2:Hid (Lk2 Xb w w2 (A8 B aS aH aF aL) B lo M' ⟨c,0,cur,prev,slot,nn,keys,false,ee⟩ aK cK):=HE1.out.after hh2 hf2
 clear HE1 hh2 hf2 hr2 hl2 hd2
 obtain⟨g0,g1,g2,g3,g4,g5,g6,g7,g8,g9,g10,g11,g12,g13,gf,gs⟩:=Aa HE2.out.zb
 go_wp2
 refine bodyPost_ret (v:=.agg #[O J g.c.kind,O J g.c.a,O J g.c.b,O J g.c.time,O J g.c.bk,O J g.c.slot,O J g.pl,O J g.cur,O J g.prev,O J g.slot,O J g.n,Y a2 g.keys.length c2,.bool g.done,O J g.e]) (by simp[results,Tryz.results160,go_sem,g0,g1,g2,g3,g4,g5,g6,g7,g8,g9,g10,g11,g12,g13]) rfl ⟨⟨a2,c2,rfl,by rw[HKy.out];exact Ez rfl HK2.out.1 HR.out HK2.out.2,(fun ad h=>(HK2.out.2 ad h).imp id (fun h'=>by omega)),HD2.out⟩,HE2.out.Ah⟩
set_option maxHeartbeats 1600000 in
theorem b4z(t:Int)(M M':Mm)(g:Fr)(c:Cl)(cur prev slot nn ee:Int)(keys:List (Int × Int))(B lo:Nat)(aS aH aF aL:Option Addr)(cS cH cF cL:Nat)(aK:Option Addr)(cK:Nat)(w:World)
  (m:Mine Xb w B lo aS aH aF aL cS cH cF cL M) (HR:Hid (Ag w aK cK keys)) (HKy:Hid (g.keys=keys))
  (HP:Hid (∀ (W:World),Mine Xb W B lo aS aH aF aL cS cH cF cL M->Ag W aK cK keys->Calls Tryz.prog 182 #[.pointer (some ⟨B,0,none⟩),.agg #[O J c.kind,O J c.a,O J c.b,O J c.time,O J c.bk,O J c.slot,O J 1,O J cur,O J prev,O J slot,O J nn,Y aK keys.length cK,.bool false,O J ee]] W fun e w'=>Ret W w' e g aK cK/\Has Xb w' B lo (Up W (A8 B aS aH aF aL)) M'/\Fine W w' (A8 B aS aH aF aL))) :
  Calls Tryz.prog 160 #[.pointer (some ⟨B,0,none⟩),.agg #[O J c.kind,O J c.a,O J c.b,O J c.time,O J c.bk,O J c.slot,O J 1,O J cur,O J prev,O J slot,O J nn,Y aK keys.length cK,.bool false,O J ee],O J t] w fun e w'=>Ret w w' e g aK cK/\Has Xb w' B lo (Up w (A8 B aS aH aF aL)) M'/\Fine w w' (A8 B aS aH aF aL):=by
 obtain⟨of,hof⟩:∃ o:Obj,o=.cells #[O J c.kind,O J c.a,O J c.b,O J c.time,O J c.bk,O J c.slot,O J 1,O J cur,O J prev,O J slot,O J nn,Y aK keys.length cK,.bool false,O J ee] 47:=⟨_,rfl⟩
 obtain⟨oz,hoz⟩:∃ o:Obj,o=Ac:=⟨_,rfl⟩
 have HE:Hid (Lk Xb w ((w.alloc of).alloc oz) B lo aS aH aF aL cS cH cF cL M ⟨c,1,cur,prev,slot,nn,keys,false,ee⟩ aK cK):=Lk.first m ⟨c,1,cur,prev,slot,nn,keys,false,ee⟩ aK cK hof hoz
 obtain⟨f0,f1,f2,f3,f4,f5,f6,f7,f8,f9,f10,f11,f12,f13,ff,fs⟩:=Aa (show ((w.alloc of).alloc oz).heap[w.heap.size]?=some (.cells #[O J c.kind,O J c.a,O J c.b,O J c.time,O J c.bk,O J c.slot,O J 1,O J cur,O J prev,O J slot,O J nn,Y aK keys.length cK,.bool false,O J ee] 47 (0,0)) from HE.out.fb)
 unfold Ac at hoz
 clear m
 go_enter Tryz.func160,Tryz.ntmps160
 go_wp2_with fail
 rw[<- hof,<- hoz]
 generalize (w.alloc of).alloc oz=W0 at *
 subst hof hoz
 have HE1:Hid (Lk Xb w W0 B lo aS aH aF aL cS cH cF cL M ⟨c,1,cur,prev,slot,nn,keys,false,ee⟩ aK cK):=HE.out
 clear HE
 clear f0 f1 f2 f3 f4 f5 f6 f7 f8 f9 f10 f11 f12 f13 ff fs
 refine(HP.out _ HE1.out.m (HR.out.below HE1.out.bl)).mono ?_
 rintro e w2 ⟨⟨a2,c2,rfl,hr2,hl2,hd2⟩,hh2,hf2⟩
 have HK2:Hid (Ag w2 a2 c2 keys/\∀ ad,a2=some ad->aK=some ad\/w.heap.size+2<=ad.block):=⟨HKy.out ▸ hr2,fun ad h=>(hl2 ad h).imp id (fun h'=>Nat.le_trans (lt_of_block HE1.out.zb) h')⟩
 have HD2:Hid (g.done=false->a2=aK/\c2=cK):=hd2
 have HE2:Hid (Lk2 Xb w w2 (A8 B aS aH aF aL) B lo M' ⟨c,1,cur,prev,slot,nn,keys,false,ee⟩ aK cK):=HE1.out.after hh2 hf2
 clear HE1 hh2 hf2 hr2 hl2 hd2
 obtain⟨g0,g1,g2,g3,g4,g5,g6,g7,g8,g9,g10,g11,g12,g13,gf,gs⟩:=Aa HE2.out.zb
 go_wp2
 refine bodyPost_ret (v:=.agg #[O J g.c.kind,O J g.c.a,O J g.c.b,O J g.c.time,O J g.c.bk,O J g.c.slot,O J g.pl,O J g.cur,O J g.prev,O J g.slot,O J g.n,Y a2 g.keys.length c2,.bool g.done,O J g.e]) (by simp[results,Tryz.results160,go_sem,g0,g1,g2,g3,g4,g5,g6,g7,g8,g9,g10,g11,g12,g13]) rfl ⟨⟨a2,c2,rfl,by rw[HKy.out];exact Ez rfl HK2.out.1 HR.out HK2.out.2,(fun ad h=>(HK2.out.2 ad h).imp id (fun h'=>by omega)),HD2.out⟩,HE2.out.Ah⟩
set_option maxHeartbeats 1600000 in
theorem b5a(t:Int)(M M':Mm)(g:Fr)(c:Cl)(cur prev slot nn ee:Int)(keys:List (Int × Int))(B lo:Nat)(aS aH aF aL:Option Addr)(cS cH cF cL:Nat)(aK:Option Addr)(cK:Nat)(w:World)
  (m:Mine Xb w B lo aS aH aF aL cS cH cF cL M) (HR:Hid (Ag w aK cK keys)) (HKy:Hid (g.keys=keys))
  (HP:Hid (∀ (W:World),Mine Xb W B lo aS aH aF aL cS cH cF cL M->Ag W aK cK keys->Calls Tryz.prog 183 #[.pointer (some ⟨B,0,none⟩),.agg #[O J c.kind,O J c.a,O J c.b,O J c.time,O J c.bk,O J c.slot,O J 2,O J cur,O J prev,O J slot,O J nn,Y aK keys.length cK,.bool false,O J ee]] W fun e w'=>Ret W w' e g aK cK/\Has Xb w' B lo (Up W (A8 B aS aH aF aL)) M'/\Fine W w' (A8 B aS aH aF aL))) :
  Calls Tryz.prog 160 #[.pointer (some ⟨B,0,none⟩),.agg #[O J c.kind,O J c.a,O J c.b,O J c.time,O J c.bk,O J c.slot,O J 2,O J cur,O J prev,O J slot,O J nn,Y aK keys.length cK,.bool false,O J ee],O J t] w fun e w'=>Ret w w' e g aK cK/\Has Xb w' B lo (Up w (A8 B aS aH aF aL)) M'/\Fine w w' (A8 B aS aH aF aL):=by
 obtain⟨of,hof⟩:∃ o:Obj,o=.cells #[O J c.kind,O J c.a,O J c.b,O J c.time,O J c.bk,O J c.slot,O J 2,O J cur,O J prev,O J slot,O J nn,Y aK keys.length cK,.bool false,O J ee] 47:=⟨_,rfl⟩
 obtain⟨oz,hoz⟩:∃ o:Obj,o=Ac:=⟨_,rfl⟩
 have HE:Hid (Lk Xb w ((w.alloc of).alloc oz) B lo aS aH aF aL cS cH cF cL M ⟨c,2,cur,prev,slot,nn,keys,false,ee⟩ aK cK):=Lk.first m ⟨c,2,cur,prev,slot,nn,keys,false,ee⟩ aK cK hof hoz
 obtain⟨f0,f1,f2,f3,f4,f5,f6,f7,f8,f9,f10,f11,f12,f13,ff,fs⟩:=Aa (show ((w.alloc of).alloc oz).heap[w.heap.size]?=some (.cells #[O J c.kind,O J c.a,O J c.b,O J c.time,O J c.bk,O J c.slot,O J 2,O J cur,O J prev,O J slot,O J nn,Y aK keys.length cK,.bool false,O J ee] 47 (0,0)) from HE.out.fb)
 unfold Ac at hoz
 clear m
 go_enter Tryz.func160,Tryz.ntmps160
 go_wp2_with fail
 rw[<- hof,<- hoz]
 generalize (w.alloc of).alloc oz=W0 at *
 subst hof hoz
 have HE1:Hid (Lk Xb w W0 B lo aS aH aF aL cS cH cF cL M ⟨c,2,cur,prev,slot,nn,keys,false,ee⟩ aK cK):=HE.out
 clear HE
 clear f0 f1 f2 f3 f4 f5 f6 f7 f8 f9 f10 f11 f12 f13 ff fs
 refine(HP.out _ HE1.out.m (HR.out.below HE1.out.bl)).mono ?_
 rintro e w2 ⟨⟨a2,c2,rfl,hr2,hl2,hd2⟩,hh2,hf2⟩
 have HK2:Hid (Ag w2 a2 c2 keys/\∀ ad,a2=some ad->aK=some ad\/w.heap.size+2<=ad.block):=⟨HKy.out ▸ hr2,fun ad h=>(hl2 ad h).imp id (fun h'=>Nat.le_trans (lt_of_block HE1.out.zb) h')⟩
 have HD2:Hid (g.done=false->a2=aK/\c2=cK):=hd2
 have HE2:Hid (Lk2 Xb w w2 (A8 B aS aH aF aL) B lo M' ⟨c,2,cur,prev,slot,nn,keys,false,ee⟩ aK cK):=HE1.out.after hh2 hf2
 clear HE1 hh2 hf2 hr2 hl2 hd2
 obtain⟨g0,g1,g2,g3,g4,g5,g6,g7,g8,g9,g10,g11,g12,g13,gf,gs⟩:=Aa HE2.out.zb
 go_wp2
 refine bodyPost_ret (v:=.agg #[O J g.c.kind,O J g.c.a,O J g.c.b,O J g.c.time,O J g.c.bk,O J g.c.slot,O J g.pl,O J g.cur,O J g.prev,O J g.slot,O J g.n,Y a2 g.keys.length c2,.bool g.done,O J g.e]) (by simp[results,Tryz.results160,go_sem,g0,g1,g2,g3,g4,g5,g6,g7,g8,g9,g10,g11,g12,g13]) rfl ⟨⟨a2,c2,rfl,by rw[HKy.out];exact Ez rfl HK2.out.1 HR.out HK2.out.2,(fun ad h=>(HK2.out.2 ad h).imp id (fun h'=>by omega)),HD2.out⟩,HE2.out.Ah⟩
set_option maxHeartbeats 1600000 in
theorem b5b(t:Int)(M M':Mm)(g:Fr)(c:Cl)(cur prev slot nn ee:Int)(keys:List (Int × Int))(B lo:Nat)(aS aH aF aL:Option Addr)(cS cH cF cL:Nat)(aK:Option Addr)(cK:Nat)(w:World)
  (m:Mine Xb w B lo aS aH aF aL cS cH cF cL M) (HR:Hid (Ag w aK cK keys)) (HKy:Hid (g.keys=keys))
  (HP:Hid (∀ (W:World),Mine Xb W B lo aS aH aF aL cS cH cF cL M->Ag W aK cK keys->Calls Tryz.prog 184 #[.pointer (some ⟨B,0,none⟩),.agg #[O J c.kind,O J c.a,O J c.b,O J c.time,O J c.bk,O J c.slot,O J 3,O J cur,O J prev,O J slot,O J nn,Y aK keys.length cK,.bool false,O J ee]] W fun e w'=>Ret W w' e g aK cK/\Has Xb w' B lo (Up W (A8 B aS aH aF aL)) M'/\Fine W w' (A8 B aS aH aF aL))) :
  Calls Tryz.prog 160 #[.pointer (some ⟨B,0,none⟩),.agg #[O J c.kind,O J c.a,O J c.b,O J c.time,O J c.bk,O J c.slot,O J 3,O J cur,O J prev,O J slot,O J nn,Y aK keys.length cK,.bool false,O J ee],O J t] w fun e w'=>Ret w w' e g aK cK/\Has Xb w' B lo (Up w (A8 B aS aH aF aL)) M'/\Fine w w' (A8 B aS aH aF aL):=by
 obtain⟨of,hof⟩:∃ o:Obj,o=.cells #[O J c.kind,O J c.a,O J c.b,O J c.time,O J c.bk,O J c.slot,O J 3,O J cur,O J prev,O J slot,O J nn,Y aK keys.length cK,.bool false,O J ee] 47:=⟨_,rfl⟩
 obtain⟨oz,hoz⟩:∃ o:Obj,o=Ac:=⟨_,rfl⟩
 have HE:Hid (Lk Xb w ((w.alloc of).alloc oz) B lo aS aH aF aL cS cH cF cL M ⟨c,3,cur,prev,slot,nn,keys,false,ee⟩ aK cK):=Lk.first m ⟨c,3,cur,prev,slot,nn,keys,false,ee⟩ aK cK hof hoz
 obtain⟨f0,f1,f2,f3,f4,f5,f6,f7,f8,f9,f10,f11,f12,f13,ff,fs⟩:=Aa (show ((w.alloc of).alloc oz).heap[w.heap.size]?=some (.cells #[O J c.kind,O J c.a,O J c.b,O J c.time,O J c.bk,O J c.slot,O J 3,O J cur,O J prev,O J slot,O J nn,Y aK keys.length cK,.bool false,O J ee] 47 (0,0)) from HE.out.fb)
 unfold Ac at hoz
 clear m
 go_enter Tryz.func160,Tryz.ntmps160
 go_wp2_with fail
 rw[<- hof,<- hoz]
 generalize (w.alloc of).alloc oz=W0 at *
 subst hof hoz
 have HE1:Hid (Lk Xb w W0 B lo aS aH aF aL cS cH cF cL M ⟨c,3,cur,prev,slot,nn,keys,false,ee⟩ aK cK):=HE.out
 clear HE
 clear f0 f1 f2 f3 f4 f5 f6 f7 f8 f9 f10 f11 f12 f13 ff fs
 refine(HP.out _ HE1.out.m (HR.out.below HE1.out.bl)).mono ?_
 rintro e w2 ⟨⟨a2,c2,rfl,hr2,hl2,hd2⟩,hh2,hf2⟩
 have HK2:Hid (Ag w2 a2 c2 keys/\∀ ad,a2=some ad->aK=some ad\/w.heap.size+2<=ad.block):=⟨HKy.out ▸ hr2,fun ad h=>(hl2 ad h).imp id (fun h'=>Nat.le_trans (lt_of_block HE1.out.zb) h')⟩
 have HD2:Hid (g.done=false->a2=aK/\c2=cK):=hd2
 have HE2:Hid (Lk2 Xb w w2 (A8 B aS aH aF aL) B lo M' ⟨c,3,cur,prev,slot,nn,keys,false,ee⟩ aK cK):=HE1.out.after hh2 hf2
 clear HE1 hh2 hf2 hr2 hl2 hd2
 obtain⟨g0,g1,g2,g3,g4,g5,g6,g7,g8,g9,g10,g11,g12,g13,gf,gs⟩:=Aa HE2.out.zb
 go_wp2
 refine bodyPost_ret (v:=.agg #[O J g.c.kind,O J g.c.a,O J g.c.b,O J g.c.time,O J g.c.bk,O J g.c.slot,O J g.pl,O J g.cur,O J g.prev,O J g.slot,O J g.n,Y a2 g.keys.length c2,.bool g.done,O J g.e]) (by simp[results,Tryz.results160,go_sem,g0,g1,g2,g3,g4,g5,g6,g7,g8,g9,g10,g11,g12,g13]) rfl ⟨⟨a2,c2,rfl,by rw[HKy.out];exact Ez rfl HK2.out.1 HR.out HK2.out.2,(fun ad h=>(HK2.out.2 ad h).imp id (fun h'=>by omega)),HD2.out⟩,HE2.out.Ah⟩
end
end Go.Proofs.YthhgoenomehobaaGreat.mm
