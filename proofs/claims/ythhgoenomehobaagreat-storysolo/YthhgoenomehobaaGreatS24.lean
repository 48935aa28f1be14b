/- Parts. -/
import Derived.Test.YthhgoenomehobaaGreatS10
import Derived.Test.YthhgoenomehobaaGreatS17
import Derived.Test.YthhgoenomehobaaGreatS23
import Derived.Test.YthhgoenomehobaaGreatS19
import Derived.Test.YthhgoenomehobaaGreatS20
import Derived.Test.YthhgoenomehobaaGreatS21
import Derived.Test.YthhgoenomehobaaGreatS22
namespace Go.Proofs.YthhgoenomehobaaGreat.mm
set_option maxRecDepth 100000
set_option linter.unusedVariables false
open Go.Value renaming int → O, slice → Y
open Go.IntKind renaming i64 → J
section
open Go.ChangeShapes Go.WideShapes Go.ChangeAt Go.RowKit Go.Joins Go.Deep Go.Sort
variable {Xb:Ex}
set_option maxHeartbeats 1600000 in
theorem b5c(t:Int)(M M':Mm)(g:Fr)(c:Cl)(cur prev slot nn ee:Int)(keys:List (Int × Int))(B lo:Nat)(aS aH aF aL:Option Addr)(cS cH cF cL:Nat)(aK:Option Addr)(cK:Nat)(w:World)
  (m:Mine Xb w B lo aS aH aF aL cS cH cF cL M) (HR:Hid (Ag w aK cK keys)) (HKy:Hid (g.keys=keys))
  (HP:Hid (∀ (W:World),Mine Xb W B lo aS aH aF aL cS cH cF cL M->Ag W aK cK keys->Calls Tryz.prog 185 #[.pointer (some ⟨B,0,none⟩),.agg #[O J c.kind,O J c.a,O J c.b,O J c.time,O J c.bk,O J c.slot,O J 4,O J cur,O J prev,O J slot,O J nn,Y aK keys.length cK,.bool false,O J ee]] W fun e w'=>Ret W w' e g aK cK/\Has Xb w' B lo (Up W (A8 B aS aH aF aL)) M'/\Fine W w' (A8 B aS aH aF aL))) :
  Calls Tryz.prog 160 #[.pointer (some ⟨B,0,none⟩),.agg #[O J c.kind,O J c.a,O J c.b,O J c.time,O J c.bk,O J c.slot,O J 4,O J cur,O J prev,O J slot,O J nn,Y aK keys.length cK,.bool false,O J ee],O J t] w fun e w'=>Ret w w' e g aK cK/\Has Xb w' B lo (Up w (A8 B aS aH aF aL)) M'/\Fine w w' (A8 B aS aH aF aL):=by
 obtain⟨of,hof⟩:∃ o:Obj,o=.cells #[O J c.kind,O J c.a,O J c.b,O J c.time,O J c.bk,O J c.slot,O J 4,O J cur,O J prev,O J slot,O J nn,Y aK keys.length cK,.bool false,O J ee] 47:=⟨_,rfl⟩
 obtain⟨oz,hoz⟩:∃ o:Obj,o=Ac:=⟨_,rfl⟩
 have HE:Hid (Lk Xb w ((w.alloc of).alloc oz) B lo aS aH aF aL cS cH cF cL M ⟨c,4,cur,prev,slot,nn,keys,false,ee⟩ aK cK):=Lk.first m ⟨c,4,cur,prev,slot,nn,keys,false,ee⟩ aK cK hof hoz
 obtain⟨f0,f1,f2,f3,f4,f5,f6,f7,f8,f9,f10,f11,f12,f13,ff,fs⟩:=Aa (show ((w.alloc of).alloc oz).heap[w.heap.size]?=some (.cells #[O J c.kind,O J c.a,O J c.b,O J c.time,O J c.bk,O J c.slot,O J 4,O J cur,O J prev,O J slot,O J nn,Y aK keys.length cK,.bool false,O J ee] 47 (0,0)) from HE.out.fb)
 unfold Ac at hoz
 clear m
 go_enter Tryz.func160,Tryz.ntmps160
 go_wp2_with fail
 rw[<- hof,<- hoz]
 generalize (w.alloc of).alloc oz=W0 at *
 subst hof hoz
 have HE1:Hid (Lk Xb w W0 B lo aS aH aF aL cS cH cF cL M ⟨c,4,cur,prev,slot,nn,keys,false,ee⟩ aK cK):=HE.out
 clear HE
 clear f0 f1 f2 f3 f4 f5 f6 f7 f8 f9 f10 f11 f12 f13 ff fs
 refine(HP.out _ HE1.out.m (HR.out.below HE1.out.bl)).mono ?_
 rintro e w2 ⟨⟨a2,c2,rfl,hr2,hl2,hd2⟩,hh2,hf2⟩
 have HK2:Hid (Ag w2 a2 c2 keys/\∀ ad,a2=some ad->aK=some ad\/w.heap.size+2<=ad.block):=⟨HKy.out ▸ hr2,fun ad h=>(hl2 ad h).imp id (fun h'=>Nat.le_trans (lt_of_block HE1.out.zb) h')⟩
 have HD2:Hid (g.done=false->a2=aK/\c2=cK):=hd2
 have HE2:Hid (Lk2 Xb w w2 (A8 B aS aH aF aL) B lo M' ⟨c,4,cur,prev,slot,nn,keys,false,ee⟩ aK cK):=HE1.out.after hh2 hf2
 clear HE1 hh2 hf2 hr2 hl2 hd2
 obtain⟨g0,g1,g2,g3,g4,g5,g6,g7,g8,g9,g10,g11,g12,g13,gf,gs⟩:=Aa HE2.out.zb
 go_wp2
 refine bodyPost_ret (v:=.agg #[O J g.c.kind,O J g.c.a,O J g.c.b,O J g.c.time,O J g.c.bk,O J g.c.slot,O J g.pl,O J g.cur,O J g.prev,O J g.slot,O J g.n,Y a2 g.keys.length c2,.bool g.done,O J g.e]) (by simp[results,Tryz.results160,go_sem,g0,g1,g2,g3,g4,g5,g6,g7,g8,g9,g10,g11,g12,g13]) rfl ⟨⟨a2,c2,rfl,by rw[HKy.out];exact Ez rfl HK2.out.1 HR.out HK2.out.2,(fun ad h=>(HK2.out.2 ad h).imp id (fun h'=>by omega)),HD2.out⟩,HE2.out.Ah⟩
set_option maxHeartbeats 1600000 in
theorem b5d(t:Int)(M M':Mm)(g:Fr)(c:Cl)(cur prev slot nn ee:Int)(keys:List (Int × Int))(B lo:Nat)(aS aH aF aL:Option Addr)(cS cH cF cL:Nat)(aK:Option Addr)(cK:Nat)(w:World)
  (m:Mine Xb w B lo aS aH aF aL cS cH cF cL M) (HR:Hid (Ag w aK cK keys)) (HKy:Hid (g.keys=keys))
  (HP:Hid (∀ (W:World),Mine Xb W B lo aS aH aF aL cS cH cF cL M->Ag W aK cK keys->Calls Tryz.prog 186 #[.pointer (some ⟨B,0,none⟩),.agg #[O J c.kind,O J c.a,O J c.b,O J c.time,O J c.bk,O J c.slot,O J 5,O J cur,O J prev,O J slot,O J nn,Y aK keys.length cK,.bool false,O J ee],O J t] W fun e w'=>Ret W w' e g aK cK/\Has Xb w' B lo (Up W (A8 B aS aH aF aL)) M'/\Fine W w' (A8 B aS aH aF aL))) :
  Calls Tryz.prog 160 #[.pointer (some ⟨B,0,none⟩),.agg #[O J c.kind,O J c.a,O J c.b,O J c.time,O J c.bk,O J c.slot,O J 5,O J cur,O J prev,O J slot,O J nn,Y aK keys.length cK,.bool false,O J ee],O J t] w fun e w'=>Ret w w' e g aK cK/\Has Xb w' B lo (Up w (A8 B aS aH aF aL)) M'/\Fine w w' (A8 B aS aH aF aL):=by
 obtain⟨of,hof⟩:∃ o:Obj,o=.cells #[O J c.kind,O J c.a,O J c.b,O J c.time,O J c.bk,O J c.slot,O J 5,O J cur,O J prev,O J slot,O J nn,Y aK keys.length cK,.bool false,O J ee] 47:=⟨_,rfl⟩
 obtain⟨oz,hoz⟩:∃ o:Obj,o=Ac:=⟨_,rfl⟩
 have HE:Hid (Lk Xb w ((w.alloc of).alloc oz) B lo aS aH aF aL cS cH cF cL M ⟨c,5,cur,prev,slot,nn,keys,false,ee⟩ aK cK):=Lk.first m ⟨c,5,cur,prev,slot,nn,keys,false,ee⟩ aK cK hof hoz
 obtain⟨f0,f1,f2,f3,f4,f5,f6,f7,f8,f9,f10,f11,f12,f13,ff,fs⟩:=Aa (show ((w.alloc of).alloc oz).heap[w.heap.size]?=some (.cells #[O J c.kind,O J c.a,O J c.b,O J c.time,O J c.bk,O J c.slot,O J 5,O J cur,O J prev,O J slot,O J nn,Y aK keys.length cK,.bool false,O J ee] 47 (0,0)) from HE.out.fb)
 unfold Ac at hoz
 clear m
 go_enter Tryz.func160,Tryz.ntmps160
 go_wp2_with fail
 rw[<- hof,<- hoz]
 generalize (w.alloc of).alloc oz=W0 at *
 subst hof hoz
 have HE1:Hid (Lk Xb w W0 B lo aS aH aF aL cS cH cF cL M ⟨c,5,cur,prev,slot,nn,keys,false,ee⟩ aK cK):=HE.out
 clear HE
 clear f0 f1 f2 f3 f4 f5 f6 f7 f8 f9 f10 f11 f12 f13 ff fs
 refine(HP.out _ HE1.out.m (HR.out.below HE1.out.bl)).mono ?_
 rintro e w2 ⟨⟨a2,c2,rfl,hr2,hl2,hd2⟩,hh2,hf2⟩
 have HK2:Hid (Ag w2 a2 c2 keys/\∀ ad,a2=some ad->aK=some ad\/w.heap.size+2<=ad.block):=⟨HKy.out ▸ hr2,fun ad h=>(hl2 ad h).imp id (fun h'=>Nat.le_trans (lt_of_block HE1.out.zb) h')⟩
 have HD2:Hid (g.done=false->a2=aK/\c2=cK):=hd2
 have HE2:Hid (Lk2 Xb w w2 (A8 B aS aH aF aL) B lo M' ⟨c,5,cur,prev,slot,nn,keys,false,ee⟩ aK cK):=HE1.out.after hh2 hf2
 clear HE1 hh2 hf2 hr2 hl2 hd2
 obtain⟨g0,g1,g2,g3,g4,g5,g6,g7,g8,g9,g10,g11,g12,g13,gf,gs⟩:=Aa HE2.out.zb
 go_wp2
 refine bodyPost_ret (v:=.agg #[O J g.c.kind,O J g.c.a,O J g.c.b,O J g.c.time,O J g.c.bk,O J g.c.slot,O J g.pl,O J g.cur,O J g.prev,O J g.slot,O J g.n,Y a2 g.keys.length c2,.bool g.done,O J g.e]) (by simp[results,Tryz.results160,go_sem,g0,g1,g2,g3,g4,g5,g6,g7,g8,g9,g10,g11,g12,g13]) rfl ⟨⟨a2,c2,rfl,by rw[HKy.out];exact Ez rfl HK2.out.1 HR.out HK2.out.2,(fun ad h=>(HK2.out.2 ad h).imp id (fun h'=>by omega)),HD2.out⟩,HE2.out.Ah⟩
set_option maxHeartbeats 1600000 in
theorem b5e(t:Int)(M M':Mm)(g:Fr)(c:Cl)(cur prev slot nn ee:Int)(keys:List (Int × Int))(B lo:Nat)(aS aH aF aL:Option Addr)(cS cH cF cL:Nat)(aK:Option Addr)(cK:Nat)(w:World)
  (m:Mine Xb w B lo aS aH aF aL cS cH cF cL M) (HR:Hid (Ag w aK cK keys)) (HKy:Hid (g.keys=keys))
  (HP:Hid (∀ (W:World),Mine Xb W B lo aS aH aF aL cS cH cF cL M->Ag W aK cK keys->Calls Tryz.prog 187 #[.pointer (some ⟨B,0,none⟩),.agg #[O J c.kind,O J c.a,O J c.b,O J c.time,O J c.bk,O J c.slot,O J 6,O J cur,O J prev,O J slot,O J nn,Y aK keys.length cK,.bool false,O J ee]] W fun e w'=>Ret W w' e g aK cK/\Has Xb w' B lo (Up W (A8 B aS aH aF aL)) M'/\Fine W w' (A8 B aS aH aF aL))) :
  Calls Tryz.prog 160 #[.pointer (some ⟨B,0,none⟩),.agg #[O J c.kind,O J c.a,O J c.b,O J c.time,O J c.bk,O J c.slot,O J 6,O J cur,O J prev,O J slot,O J nn,Y aK keys.length cK,.bool false,O J ee],O J t] w fun e w'=>Ret w w' e g aK cK/\Has Xb w' B lo (Up w (A8 B aS aH aF aL)) M'/\Fine w w' (A8 B aS aH aF aL):=by
 obtain⟨of,hof⟩:∃ o:Obj,o=.cells #[O J c.kind,O J c.a,O J c.b,O J c.time,O J c.bk,O J c.slot,O J 6,O J cur,O J prev,O J slot,O J nn,Y aK keys.length cK,.bool false,O J ee] 47:=⟨_,rfl⟩
 obtain⟨oz,hoz⟩:∃ o:Obj,o=Ac:=⟨_,rfl⟩
 have HE:Hid (Lk Xb w ((w.alloc of).alloc oz) B lo aS aH aF aL cS cH cF cL M ⟨c,6,cur,prev,slot,nn,keys,false,ee⟩ aK cK):=Lk.first m ⟨c,6,cur,prev,slot,nn,keys,false,ee⟩ aK cK hof hoz
 obtain⟨f0,f1,f2,f3,f4,f5,f6,f7,f8,f9,f10,f11,f12,f13,ff,fs⟩:=Aa (show ((w.alloc of).alloc oz).heap[w.heap.size]?=some (.cells #[O J c.kind,O J c.a,O J c.b,O J c.time,O J c.bk,O J c.slot,O J 6,O J cur,O J prev,O J slot,O J nn,Y aK keys.length cK,.bool false,O J ee] 47 (0,0)) from HE.out.fb)
 unfold Ac at hoz
 clear m
 go_enter Tryz.func160,Tryz.ntmps160
 go_wp2_with fail
 rw[<- hof,<- hoz]
 generalize (w.alloc of).alloc oz=W0 at *
 subst hof hoz
 have HE1:Hid (Lk Xb w W0 B lo aS aH aF aL cS cH cF cL M ⟨c,6,cur,prev,slot,nn,keys,false,ee⟩ aK cK):=HE.out
 clear HE
 clear f0 f1 f2 f3 f4 f5 f6 f7 f8 f9 f10 f11 f12 f13 ff fs
 refine(HP.out _ HE1.out.m (HR.out.below HE1.out.bl)).mono ?_
 rintro e w2 ⟨⟨a2,c2,rfl,hr2,hl2,hd2⟩,hh2,hf2⟩
 have HK2:Hid (Ag w2 a2 c2 keys/\∀ ad,a2=some ad->aK=some ad\/w.heap.size+2<=ad.block):=⟨HKy.out ▸ hr2,fun ad h=>(hl2 ad h).imp id (fun h'=>Nat.le_trans (lt_of_block HE1.out.zb) h')⟩
 have HD2:Hid (g.done=false->a2=aK/\c2=cK):=hd2
 have HE2:Hid (Lk2 Xb w w2 (A8 B aS aH aF aL) B lo M' ⟨c,6,cur,prev,slot,nn,keys,false,ee⟩ aK cK):=HE1.out.after hh2 hf2
 clear HE1 hh2 hf2 hr2 hl2 hd2
 obtain⟨g0,g1,g2,g3,g4,g5,g6,g7,g8,g9,g10,g11,g12,g13,gf,gs⟩:=Aa HE2.out.zb
 go_wp2
 refine bodyPost_ret (v:=.agg #[O J g.c.kind,O J g.c.a,O J g.c.b,O J g.c.time,O J g.c.bk,O J g.c.slot,O J g.pl,O J g.cur,O J g.prev,O J g.slot,O J g.n,Y a2 g.keys.length c2,.bool g.done,O J g.e]) (by simp[results,Tryz.results160,go_sem,g0,g1,g2,g3,g4,g5,g6,g7,g8,g9,g10,g11,g12,g13]) rfl ⟨⟨a2,c2,rfl,by rw[HKy.out];exact Ez rfl HK2.out.1 HR.out HK2.out.2,(fun ad h=>(HK2.out.2 ad h).imp id (fun h'=>by omega)),HD2.out⟩,HE2.out.Ah⟩
def Ju(f:Fr):Fr:=Cf f 8 5
set_option maxHeartbeats 1600000 in
theorem a2r(t:Int)(M:Mm)(c:Cl)(pl cur prev slot nn ee:Int)(keys:List (Int × Int))(B lo:Nat)(aS aH aF aL:Option Addr)(cS cH cF cL:Nat)(aK:Option Addr)(cK:Nat)(w:World)
  (m:Mine Xb w B lo aS aH aF aL cS cH cF cL M) (HR:Hid (Ag w aK cK keys)) (h7:7<=pl) :
  Calls Tryz.prog 160 #[.pointer (some ⟨B,0,none⟩),.agg #[O J c.kind,O J c.a,O J c.b,O J c.time,O J c.bk,O J c.slot,O J pl,O J cur,O J prev,O J slot,O J nn,Y aK keys.length cK,.bool false,O J ee],O J t] w fun e w'=>Ret w w' e (Ju ⟨c,pl,cur,prev,slot,nn,keys,false,ee⟩) aK cK/\Has Xb w' B lo (Up w (A8 B aS aH aF aL)) M/\Fine w w' (A8 B aS aH aF aL):=by
 have p0:(pl==0)=false:=by rw[beq_eq_false_iff_ne];omega
 have p1:(pl==1)=false:=by rw[beq_eq_false_iff_ne];omega
 have p2:(pl==2)=false:=by rw[beq_eq_false_iff_ne];omega
 have p3:(pl==3)=false:=by rw[beq_eq_false_iff_ne];omega
 have p4:(pl==4)=false:=by rw[beq_eq_false_iff_ne];omega
 have p5:(pl==5)=false:=by rw[beq_eq_false_iff_ne];omega
 have p6:(pl==6)=false:=by rw[beq_eq_false_iff_ne];omega
 obtain⟨of,hof⟩:∃ o:Obj,o=.cells #[O J c.kind,O J c.a,O J c.b,O J c.time,O J c.bk,O J c.slot,O J pl,O J cur,O J prev,O J slot,O J nn,Y aK keys.length cK,.bool false,O J ee] 47:=⟨_,rfl⟩
 obtain⟨oz,hoz⟩:∃ o:Obj,o=Ac:=⟨_,rfl⟩
 have HE:Hid (Lk Xb w ((w.alloc of).alloc oz) B lo aS aH aF aL cS cH cF cL M ⟨c,pl,cur,prev,slot,nn,keys,false,ee⟩ aK cK):=Lk.first m ⟨c,pl,cur,prev,slot,nn,keys,false,ee⟩ aK cK hof hoz
 obtain⟨f0,f1,f2,f3,f4,f5,f6,f7,f8,f9,f10,f11,f12,f13,ff,fs⟩:=Aa (show ((w.alloc of).alloc oz).heap[w.heap.size]?=some (.cells #[O J c.kind,O J c.a,O J c.b,O J c.time,O J c.bk,O J c.slot,O J pl,O J cur,O J prev,O J slot,O J nn,Y aK keys.length cK,.bool false,O J ee] 47 (0,0)) from HE.out.fb)
 unfold Ac at hoz
 clear m
 go_enter Tryz.func160,Tryz.ntmps160
 go_wp2_with fail
 rw[<- hof,<- hoz]
 generalize (w.alloc of).alloc oz=W0 at *
 subst hof hoz
 clear f0 f1 f2 f3 f4 f5 f6 f7 f8 f9 f10 f11 f12 f13 ff fs
 refine(Qm ⟨c,pl,cur,prev,slot,nn,keys,false,ee⟩ aK cK _).mono ?_
 rintro e w2 ⟨rfl,hb2⟩
 have HE2:Hid (Lk Xb w w2 B lo aS aH aF aL cS cH cF cL M ⟨c,pl,cur,prev,slot,nn,keys,false,ee⟩ aK cK):=HE.out.below hb2
 clear HE hb2
 obtain⟨g0,g1,g2,g3,g4,g5,g6,g7,g8,g9,g10,g11,g12,g13,gf,gs⟩:=Aa HE2.out.zb
 go_wp2
 refine bodyPost_ret (v:=.agg #[O J (Ju ⟨c,pl,cur,prev,slot,nn,keys,false,ee⟩).c.kind,O J (Ju ⟨c,pl,cur,prev,slot,nn,keys,false,ee⟩).c.a,O J (Ju ⟨c,pl,cur,prev,slot,nn,keys,false,ee⟩).c.b,O J (Ju ⟨c,pl,cur,prev,slot,nn,keys,false,ee⟩).c.time,O J (Ju ⟨c,pl,cur,prev,slot,nn,keys,false,ee⟩).c.bk,O J (Ju ⟨c,pl,cur,prev,slot,nn,keys,false,ee⟩).c.slot,O J (Ju ⟨c,pl,cur,prev,slot,nn,keys,false,ee⟩).pl,O J (Ju ⟨c,pl,cur,prev,slot,nn,keys,false,ee⟩).cur,O J (Ju ⟨c,pl,cur,prev,slot,nn,keys,false,ee⟩).prev,O J (Ju ⟨c,pl,cur,prev,slot,nn,keys,false,ee⟩).slot,O J (Ju ⟨c,pl,cur,prev,slot,nn,keys,false,ee⟩).n,Y aK (Ju ⟨c,pl,cur,prev,slot,nn,keys,false,ee⟩).keys.length cK,.bool (Ju ⟨c,pl,cur,prev,slot,nn,keys,false,ee⟩).done,O J (Ju ⟨c,pl,cur,prev,slot,nn,keys,false,ee⟩).e]) (by simp[results,Tryz.results160,go_sem,Ju,Cf,g0,g1,g2,g3,g4,g5,g6,g7,g8,g9,g10,g11,g12,g13]) rfl ⟨⟨aK,cK,rfl,HR.out.below (Gj HE2.out.bl),(fun ad h=>.inl h),fun _=>⟨rfl,rfl⟩⟩,HE2.out.two.Ah⟩
end
section
open Go.ChangeShapes Go.WideShapes Go.ChangeAt Go.RowKit Go.Joins Go.Deep Go.Sort
variable {Xb:Ex}
theorem b4u(t:Int)(M:Mm)(f:Fr)(B lo:Nat)(aS aH aF aL:Option Addr)(cS cH cF cL:Nat)(aK:Option Addr)(cK:Nat)(w:World)
  (m:Mine Xb w B lo aS aH aF aL cS cH cF cL M) (hM:Ok M) (hf:Fit M f) (hk:f.c.kind=3) (r:Ag w aK cK f.keys) (hz:∀ ad,aK=some ad->¬ A8 B aS aH aF aL ad.block) :
  Calls Tryz.prog 160 #[.pointer (some ⟨B,0,none⟩),.agg #[O J f.c.kind,O J f.c.a,O J f.c.b,O J f.c.time,O J f.c.bk,O J f.c.slot,O J f.pl,O J f.cur,O J f.prev,O J f.slot,O J f.n,Y aK f.keys.length cK,.bool f.done,O J f.e],O J t] w fun e w'=>Ret w w' e (drF M f) aK cK/\Has Xb w' B lo (Up w (A8 B aS aH aF aL)) (drM t M f)/\Fine w w' (A8 B aS aH aF aL):=by
 obtain⟨c,pl,cur,prev,slot,nn,keys,done,ee⟩:=f
 have hd:done=false:=hf.done
 subst hd
 have hpl:0<=pl/\pl<=9:=hf.pl
 by_cases h7:7<=pl
 ·rw[drF7 (f:=⟨c,pl,cur,prev,slot,nn,keys,false,ee⟩) h7,Gp (f:=⟨c,pl,cur,prev,slot,nn,keys,false,ee⟩) (by show pl≠0/\pl≠4/\pl≠5/\pl≠6;omega)]
  exact a2r t M c pl cur prev slot nn ee keys B lo aS aH aF aL cS cH cF cL aK cK w m r h7
 ·obtain rfl|rfl|rfl|rfl|rfl|rfl|rfl:pl=0\/pl=1\/pl=2\/pl=3\/pl=4\/pl=5\/pl=6:=by omega
  ·exact b4y t M _ _ c cur prev slot nn ee keys B lo aS aH aF aL cS cH cF cL aK cK w m r (L9 _ _) (fun W m' r'=>by
   rw[b8g rfl,b8k rfl]
   exact b4t M ⟨c,0,cur,prev,slot,nn,keys,false,ee⟩ t B lo aS aH aF aL cS cH cF cL aK cK W m' hM hf r' hz)
  ·exact b4z t M _ _ c cur prev slot nn ee keys B lo aS aH aF aL cS cH cF cL aK cK w m r (L9 _ _) (fun W m' r'=>by
   rw[b8h rfl,Gp (by show (1:Int)≠0/\(1:Int)≠4/\(1:Int)≠5/\(1:Int)≠6;omega)]
   exact b0i M ⟨c,1,cur,prev,slot,nn,keys,false,ee⟩ B lo aS aH aF aL cS cH cF cL aK cK W m' hM hf r' hz)
  ·exact b5a t M _ _ c cur prev slot nn ee keys B lo aS aH aF aL cS cH cF cL aK cK w m r (L9 _ _) (fun W m' r'=>by
   rw[b0g rfl,Gp (by show (2:Int)≠0/\(2:Int)≠4/\(2:Int)≠5/\(2:Int)≠6;omega)]
   exact b8o M ⟨c,2,cur,prev,slot,nn,keys,false,ee⟩ B lo aS aH aF aL cS cH cF cL aK cK W m' hM hf r' hz)
  ·exact b5b t M _ _ c cur prev slot nn ee keys B lo aS aH aF aL cS cH cF cL aK cK w m r (L9 _ _) (fun W m' r'=>by
   rw[b8i rfl,Gp (by show (3:Int)≠0/\(3:Int)≠4/\(3:Int)≠5/\(3:Int)≠6;omega)]
   exact b4v M ⟨c,3,cur,prev,slot,nn,keys,false,ee⟩ B lo aS aH aF aL cS cH cF cL aK cK W m' hM hf r' hz)
  ·exact b5c t M _ _ c cur prev slot nn ee keys B lo aS aH aF aL cS cH cF cL aK cK w m r (L9 _ _) (fun W m' r'=>by
   rw[b8j rfl,b8l rfl]
   exact b8m M ⟨c,4,cur,prev,slot,nn,keys,false,ee⟩ B lo aS aH aF aL cS cH cF cL aK cK W m' hM hf r' hz)
  ·exact b5d t M _ _ c cur prev slot nn ee keys B lo aS aH aF aL cS cH cF cL aK cK w m r (L9 _ _) (fun W m' r'=>by
   rw[b4n rfl,b4q rfl]
   exact a6i M ⟨c,5,cur,prev,slot,nn,keys,false,ee⟩ t B lo aS aH aF aL cS cH cF cL aK cK W m' hM hf r' hz)
  ·exact b5e t M _ _ c cur prev slot nn ee keys B lo aS aH aF aL cS cH cF cL aK cK w m r (L9 _ _) (fun W m' r'=>by
   rw[b4o rfl,b4r rfl]
   exact b8n M ⟨c,6,cur,prev,slot,nn,keys,false,ee⟩ B lo aS aH aF aL cS cH cF cL aK cK W m' hM hf r' hz)
end
end Go.Proofs.YthhgoenomehobaaGreat.mm
