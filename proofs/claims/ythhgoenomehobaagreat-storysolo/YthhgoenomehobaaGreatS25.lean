/- Parts. -/
import Derived.Test.YthhgoenomehobaaGreatS06
import Derived.Test.YthhgoenomehobaaGreatS03
import Derived.Test.YthhgoenomehobaaGreatS10
import Derived.Test.YthhgoenomehobaaGreatS09
import Derived.Test.YthhgoenomehobaaGreatS04
import Derived.Deep.QuietTactic
import Derived.BigQuiet
import Derived.BigRegion
import Derived.Lib.QuietBelow
namespace Go.Proofs.YthhgoenomehobaaGreat.mm
set_option maxRecDepth 100000
set_option linter.unusedVariables false
open Go.Value renaming int → O, slice → Y
open Go.IntKind renaming i64 → J
section
open Go.ChangeShapes Go.WideShapes Go.ChangeAt Go.RowKit Go.Joins Go.Deep Go.Sort
variable {Xb:Ex}
structure Gg(w:World)(lo:Nat)(a:Option Addr)(c:Nat)(l:List (Int × Int)):Prop where
 own:w.ownsRow lo 30 2 (Y a l.length c) l.length (O5 l)
theorem b1c(w:World)(lo:Nat):Gg w lo none 0 []:=⟨World.ownsRow_nil w lo 30 2⟩
theorem Gg.row{w:World}{lo:Nat}{a:Option Addr}{c:Nat}{l:List (Int × Int)}(h:Gg w lo a c l)(hm:l.length<=1000):Ag w a c l:=Ag.own h.own (by omega)
theorem Gg.le{w:World}{lo lo':Nat}{a:Option Addr}{c:Nat}{l:List (Int × Int)}(h:Gg w lo a c l)(hl:lo'<=lo):Gg w lo' a c l:=⟨ownsRow_le h.own hl⟩
theorem Gg.lt{w:World}{lo:Nat}{a:Option Addr}{c:Nat}{l:List (Int × Int)}(h:Gg w lo a c l):∀ ad,a=some ad->lo<=ad.block/\ad.block<w.heap.size:=by
 rintro ad rfl
 rcases h.own.2 with ⟨hv,-⟩|⟨g,cap,cur,hv,hg,hb,-⟩
 ·cases hv
 ·injection hv with h1 _ _
  injection h1 with h1
  subst h1
  exact⟨hg,lt_of_block hb⟩
theorem Gg.same{w w':World}{lo:Nat}{a:Option Addr}{c:Nat}{l:List (Int × Int)}(h:Gg w lo a c l)(hk:∀ ad,a=some ad->w'.heap[ad.block]?=w.heap[ad.block]?):Gg w' lo a c l :=
 ⟨Dx h.own fun g hg=>by
  cases a with
  | none=>cases hg
  | some ad=>cases hg;exact hk ad rfl⟩
theorem Gg.below{w w':World}{lo:Nat}{a:Option Addr}{c:Nat}{l:List (Int × Int)}(h:Gg w lo a c l)(hb:Below w.heap.size w w'):Gg w' lo a c l :=
 h.same fun ad e=>hb.block _ (h.lt ad e).2
theorem Ub(ao:Option Addr)(cap:Nat)(l:List (Int × Int))(w:World)(r:Ag w ao cap l) :
  Calls Tryz.prog 104 #[Y ao l.length cap] w fun e w'=>∃ a c,e=.returned (Y a l.length c)/\Gg w' w.heap.size a c l/\Below w.heap.size w w':=by
 cases ao with
 | some ad =>
  refine(Xc ad cap l w r).mono ?_
  rintro e w' ⟨rfl,h1,h2⟩
  exact⟨_,_,rfl,⟨h1⟩,h2⟩
 | none =>
  have hc:=r.nil rfl
  have hl:l=[]:=List.eq_nil_of_length_eq_zero (by have:=r.le;omega)
  subst hc hl
  refine(Xa w).mono ?_
  rintro e w' ⟨rfl,rfl⟩
  exact⟨_,_,rfl,b1c _ _,Below.refl _ _⟩
theorem Gg.Ah{w1:World}{n:Nat}{a:Option Addr}{c:Nat}{l:List (Int × Int)}(h:Gg w1 (n+2) a c l){v0 v1 v2 v3 v4 v5 v6 v7 v8 v9 v10 v11 v12 v13:Value}:Gg ((((((((((((((w1.setCell ⟨n+1,0,none⟩ v0).setCell ⟨n+1,1,none⟩ v1).setCell ⟨n+1,2,none⟩ v2).setCell ⟨n+1,3,none⟩ v3).setCell ⟨n+1,4,none⟩ v4).setCell ⟨n+1,5,none⟩ v5).setCell ⟨n+1,6,none⟩ v6).setCell ⟨n+1,7,none⟩ v7).setCell ⟨n+1,8,none⟩ v8).setCell ⟨n+1,9,none⟩ v9).setCell ⟨n+1,10,none⟩ v10).setCell ⟨n+1,11,none⟩ v11).setCell ⟨n+1,12,none⟩ v12).setCell ⟨n+1,13,none⟩ v13) n a c l :=
 (h.same fun ad e=>by
  have:=(h.lt ad e).1
  repeat rw[Below.heap_setCell _ _ _ _ (by dsimp only;omega)]).le (by omega)
def Ze(w w':World)(e:Ending)(g:Fr):Prop:=∃ a c,e=.returned (.agg #[O J g.c.kind,O J g.c.a,O J g.c.b,O J g.c.time,O J g.c.bk,O J g.c.slot,O J g.pl,O J g.cur,O J g.prev,O J g.slot,O J g.n,Y a g.keys.length c,.bool g.done,O J g.e])/\Gg w' w.heap.size a c g.keys
def b3n(w w':World)(e:Ending)(g:Fr)(aK:Option Addr)(cK:Nat)(l:List (Int × Int)):Prop:=(e=.returned (.agg #[O J g.c.kind,O J g.c.a,O J g.c.b,O J g.c.time,O J g.c.bk,O J g.c.slot,O J g.pl,O J g.cur,O J g.prev,O J g.slot,O J g.n,Y aK g.keys.length cK,.bool g.done,O J g.e])/\g.keys=l/\Ag w' aK cK g.keys)\/Ze w w' e g
theorem Ret.s{w w':World}{e:Ending}{g:Fr}{aK:Option Addr}{cK:Nat}{l:List (Int × Int)}(h:Ret w w' e g aK cK)(hd:g.done=false)(hl:g.keys=l):b3n w w' e g aK cK l:=by
 obtain⟨a,c,h1,h2,-,h4⟩:=h
 obtain⟨rfl,rfl⟩:=h4 hd
 exact .inl ⟨h1,hl,h2⟩
set_option maxHeartbeats 3200000 in
theorem U6(f:Fr)(e0:Int)(aK:Option Addr)(cK:Nat)(w:World)(r:Ag w aK cK f.keys) :
  Calls Tryz.prog 199 #[.agg #[O J f.c.kind,O J f.c.a,O J f.c.b,O J f.c.time,O J f.c.bk,O J f.c.slot,O J f.pl,O J f.cur,O J f.prev,O J f.slot,O J f.n,Y aK f.keys.length cK,.bool f.done,O J f.e],O J e0] w fun e w'=>∃ a c,e=.returned (.agg #[O J (Af f e0).c.kind,O J (Af f e0).c.a,O J (Af f e0).c.b,O J (Af f e0).c.time,O J (Af f e0).c.bk,O J (Af f e0).c.slot,O J (Af f e0).pl,O J (Af f e0).cur,O J (Af f e0).prev,O J (Af f e0).slot,O J (Af f e0).n,Y a (Af f e0).keys.length c,.bool (Af f e0).done,O J (Af f e0).e])/\Gg w' w.heap.size a c f.keys/\Below w.heap.size w w':=by
 obtain⟨of,hof⟩:=frObj f aK cK
 obtain⟨oz,hoz⟩:∃ o:Obj,o=.cells #[O J 0,O J 0,O J 0,O J 0,O J 0,O J 0,O J 0,O J 0,O J 0,O J 0,O J 0,Y none 0 0,.bool false,O J 0] 47:=⟨_,rfl⟩
 have HE0:Hid (Env w ((w.alloc of).alloc oz) _ []):=((⟨Below.refl _ _,(fun p hp=>by cases hp),(fun p hp=>by cases hp)⟩:Env w w [] []).alloc of).alloc oz
 rw[show (w.alloc of).heap.size=w.heap.size+1 by simp] at HE0
 have HR:Hid (Ag w aK cK f.keys):=r
 clear r
 go_enter Tryz.func199,Tryz.ntmps199
 go_wp2_with fail
 rw[<- hof,<- hoz]
 generalize (w.alloc of).alloc oz=W0 at *
 subst hof hoz
 refine(Ub aK cK f.keys W0 (HR.out.below HE0.out.bl)).mono ?_
 rintro e w1 ⟨a1,c1,rfl,hr1,hb1⟩
 have HE1:Hid _:=HE0.out.below hb1
 have HR1:Hid (Gg w1 (w.heap.size+2) a1 c1 f.keys):=hr1.le (HE0.out.lt (.head _))
 clear HE0 hb1 hr1
 have hbz:=HE1.out.box _ (.head _)
 have hbf:=HE1.out.box _ (.tail _ (.head _))
 obtain⟨f0,f1,f2,f3,f4,f5,f6,f7,f8,f9,f10,f11,f12,f13,ff,fs⟩:=Aa hbf
 obtain⟨g0,g1,g2,g3,g4,g5,g6,g7,g8,g9,g10,g11,g12,g13,gf,gs⟩:=Aa hbz
 have hne:w.heap.size+1≠w.heap.size:=by omega
 have HBl:Hid (Below w.heap.size w w1):=HE1.out.bl
 clear hbz hbf HE1
 go_wp2
 refine bodyPost_ret (v:=.agg #[O J (Af f e0).c.kind,O J (Af f e0).c.a,O J (Af f e0).c.b,O J (Af f e0).c.time,O J (Af f e0).c.bk,O J (Af f e0).c.slot,O J (Af f e0).pl,O J (Af f e0).cur,O J (Af f e0).prev,O J (Af f e0).slot,O J (Af f e0).n,Y a1 (Af f e0).keys.length c1,.bool (Af f e0).done,O J (Af f e0).e]) (by simp[results,Tryz.results199,go_sem,Af,g0,g1,g2,g3,g4,g5,g6,g7,g8,g9,g10,g11,g12,g13]) rfl ⟨a1,c1,rfl,(HR1.out.same (fun ad hk=>?_)).le (by omega),?_⟩
 ·have:=(HR1.out.lt ad hk).1
  repeat rw[Below.heap_setCell _ _ _ _ (by dsimp only;omega)]
 ·iterate 17 (refine Below.setCell ?_ (by dsimp only;omega) _)
  exact HBl.out
end
section
open Go.ChangeShapes Go.WideShapes Go.ChangeAt Go.RowKit Go.Joins Go.Deep Go.Sort
theorem Ol(f:Fr)(aK:Option Addr)(cK:Nat)(w:World) :
  Calls Tryz.prog 196 #[.agg #[O J f.c.kind,O J f.c.a,O J f.c.b,O J f.c.time,O J f.c.bk,O J f.c.slot,O J f.pl,O J f.cur,O J f.prev,O J f.slot,O J f.n,Y aK f.keys.length cK,.bool f.done,O J f.e]] w fun e w'=>e=.returned (.agg #[O J (toF f 6).c.kind,O J (toF f 6).c.a,O J (toF f 6).c.b,O J (toF f 6).c.time,O J (toF f 6).c.bk,O J (toF f 6).c.slot,O J (toF f 6).pl,O J (toF f 6).cur,O J (toF f 6).prev,O J (toF f 6).slot,O J (toF f 6).n,Y aK (toF f 6).keys.length cK,.bool (toF f 6).done,O J (toF f 6).e])/\Below w.heap.size w w':=by
 go_enter Tryz.func196,Tryz.ntmps196
 go_wp2_with fail
 refine(Cc f 6 aK cK _).mono ?_
 rintro e w9 ⟨rfl,hb9⟩
 have HE9:Hid (Below w.heap.size w w9/\w9.heap[w.heap.size+1]?=some Ac):=a0a hb9
 clear hb9
 obtain⟨g0,g1,g2,g3,g4,g5,g6,g7,g8,g9,g10,g11,g12,g13,gf,gs⟩:=Aa HE9.out.2
 go_wp2
 refine bodyPost_ret (v:=.agg #[O J (toF f 6).c.kind,O J (toF f 6).c.a,O J (toF f 6).c.b,O J (toF f 6).c.time,O J (toF f 6).c.bk,O J (toF f 6).c.slot,O J (toF f 6).pl,O J (toF f 6).cur,O J (toF f 6).prev,O J (toF f 6).slot,O J (toF f 6).n,Y aK (toF f 6).keys.length cK,.bool (toF f 6).done,O J (toF f 6).e]) (by simp[results,Tryz.results196,go_sem,toF,g0,g1,g2,g3,g4,g5,g6,g7,g8,g9,g10,g11,g12,g13]) rfl ⟨rfl,Gj HE9.out.1⟩
end
section
open Go.ChangeShapes Go.WideShapes Go.ChangeAt Go.RowKit Go.Joins Go.Deep Go.Sort
variable {Xb:Ex}
set_option maxHeartbeats 1600000 in
theorem b6x(t:Int)(M M':Mm)(g:Fr)(c:Cl)(cur prev slot nn ee:Int)(keys:List (Int × Int))(B lo:Nat)(aS aH aF aL:Option Addr)(cS cH cF cL:Nat)(aK:Option Addr)(cK:Nat)(w:World)
  (m:Mine Xb w B lo aS aH aF aL cS cH cF cL M) (HR:Hid (Ag w aK cK keys)) (HKy:Hid (g.keys=keys))
  (HP:Hid (∀ (W:World),Mine Xb W B lo aS aH aF aL cS cH cF cL M->Ag W aK cK keys->Calls Tryz.prog 189 #[.pointer (some ⟨B,0,none⟩),.agg #[O J c.kind,O J c.a,O J c.b,O J c.time,O J c.bk,O J c.slot,O J 0,O J cur,O J prev,O J slot,O J nn,Y aK keys.length cK,.bool false,O J ee],O J t] W fun e w'=>Ret W w' e g aK cK/\Has Xb w' B lo (Up W (A8 B aS aH aF aL)) M'/\Fine W w' (A8 B aS aH aF aL))) :
  Calls Tryz.prog 161 #[.pointer (some ⟨B,0,none⟩),.agg #[O J c.kind,O J c.a,O J c.b,O J c.time,O J c.bk,O J c.slot,O J 0,O J cur,O J prev,O J slot,O J nn,Y aK keys.length cK,.bool false,O J ee],O J t] w fun e w'=>Ret w w' e g aK cK/\Has Xb w' B lo (Up w (A8 B aS aH aF aL)) M'/\Fine w w' (A8 B aS aH aF aL):=by
 obtain⟨of,hof⟩:∃ o:Obj,o=.cells #[O J c.kind,O J c.a,O J c.b,O J c.time,O J c.bk,O J c.slot,O J 0,O J cur,O J prev,O J slot,O J nn,Y aK keys.length cK,.bool false,O J ee] 47:=⟨_,rfl⟩
 obtain⟨oz,hoz⟩:∃ o:Obj,o=Ac:=⟨_,rfl⟩
 have HE:Hid (Lk Xb w ((w.alloc of).alloc oz) B lo aS aH aF aL cS cH cF cL M ⟨c,0,cur,prev,slot,nn,keys,false,ee⟩ aK cK):=Lk.first m ⟨c,0,cur,prev,slot,nn,keys,false,ee⟩ aK cK hof hoz
 obtain⟨f0,f1,f2,f3,f4,f5,f6,f7,f8,f9,f10,f11,f12,f13,ff,fs⟩:=Aa (show ((w.alloc of).alloc oz).heap[w.heap.size]?=some (.cells #[O J c.kind,O J c.a,O J c.b,O J c.time,O J c.bk,O J c.slot,O J 0,O J cur,O J prev,O J slot,O J nn,Y aK keys.length cK,.bool false,O J ee] 47 (0,0)) from HE.out.fb)
 unfold Ac at hoz
 clear m
 go_enter Tryz.func161,Tryz.ntmps161
 go_wp2_with fail
 rw[<- hof,<- hoz]
 generalize (w.alloc of).alloc oz=W0 at *
 subst hof hoz
 have HE1:Hid (Lk Xb w W0 B lo aS aH aF aL cS cH cF cL M ⟨c,0,cur,prev,slot,nn,keys,false,ee⟩ aK cK):=HE.out
 clear HE
 clear f0 f1 f2 f3 f4 f5 f6 f7 f8 f9 f10 f11 f12 f13 ff fs
 refine(HP.out _ HE1.out.m (HR.out.below HE1.out.bl)).mono ?_
 rintro e w2 ⟨⟨a2,c2,rfl,hr2,hl2,hd2⟩,hh2,hf2⟩
 have HK2:Hid (Ag w2 a2 c2 keys/\∀ ad,a2=some ad->aK=some ad\/w.heap.size+2<=ad.block):=⟨HKy.out ▸ hr2,fun ad h=>(hl2 ad h).imp id (fun h'=>Nat.le_trans (lt_of_block HE1.out.zb) h')⟩
 have HD2:Hid (g.done=false->a2=aK/\c2=cK):=hd2
 have HE2:Hid (Lk2 Xb w w2 (A8 B aS aH aF aL) B lo M' ⟨c,0,cur,prev,slot,nn,keys,false,ee⟩ aK cK):=HE1.out.after hh2 hf2
 clear HE1 hh2 hf2 hr2 hl2 hd2
 obtain⟨g0,g1,g2,g3,g4,g5,g6,g7,g8,g9,g10,g11,g12,g13,gf,gs⟩:=Aa HE2.out.zb
 go_wp2
 refine bodyPost_ret (v:=.agg #[O J g.c.kind,O J g.c.a,O J g.c.b,O J g.c.time,O J g.c.bk,O J g.c.slot,O J g.pl,O J g.cur,O J g.prev,O J g.slot,O J g.n,Y a2 g.keys.length c2,.bool g.done,O J g.e]) (by simp[results,Tryz.results161,go_sem,g0,g1,g2,g3,g4,g5,g6,g7,g8,g9,g10,g11,g12,g13]) rfl ⟨⟨a2,c2,rfl,by rw[HKy.out];exact Ez rfl HK2.out.1 HR.out HK2.out.2,(fun ad h=>(HK2.out.2 ad h).imp id (fun h'=>by omega)),HD2.out⟩,HE2.out.Ah⟩
set_option maxHeartbeats 1600000 in
theorem b6y(t:Int)(M M':Mm)(g:Fr)(c:Cl)(cur prev slot nn ee:Int)(keys:List (Int × Int))(B lo:Nat)(aS aH aF aL:Option Addr)(cS cH cF cL:Nat)(aK:Option Addr)(cK:Nat)(w:World)
  (m:Mine Xb w B lo aS aH aF aL cS cH cF cL M) (HR:Hid (Ag w aK cK keys)) (HKy:Hid (g.keys=keys))
  (HP:Hid (∀ (W:World),Mine Xb W B lo aS aH aF aL cS cH cF cL M->Ag W aK cK keys->Calls Tryz.prog 190 #[.pointer (some ⟨B,0,none⟩),.agg #[O J c.kind,O J c.a,O J c.b,O J c.time,O J c.bk,O J c.slot,O J 1,O J cur,O J prev,O J slot,O J nn,Y aK keys.length cK,.bool false,O J ee]] W fun e w'=>Ret W w' e g aK cK/\Has Xb w' B lo (Up W (A8 B aS aH aF aL)) M'/\Fine W w' (A8 B aS aH aF aL))) :
  Calls Tryz.prog 161 #[.pointer (some ⟨B,0,none⟩),.agg #[O J c.kind,O J c.a,O J c.b,O J c.time,O J c.bk,O J c.slot,O J 1,O J cur,O J prev,O J slot,O J nn,Y aK keys.length cK,.bool false,O J ee],O J t] w fun e w'=>Ret w w' e g aK cK/\Has Xb w' B lo (Up w (A8 B aS aH aF aL)) M'/\Fine w w' (A8 B aS aH aF aL):=by
 obtain⟨of,hof⟩:∃ o:Obj,o=.cells #[O J c.kind,O J c.a,O J c.b,O J c.time,O J c.bk,O J c.slot,O J 1,O J cur,O J prev,O J slot,O J nn,Y aK keys.length cK,.bool false,O J ee] 47:=⟨_,rfl⟩
 obtain⟨oz,hoz⟩:∃ o:Obj,o=Ac:=⟨_,rfl⟩
 have HE:Hid (Lk Xb w ((w.alloc of).alloc oz) B lo aS aH aF aL cS cH cF cL M ⟨c,1,cur,prev,slot,nn,keys,false,ee⟩ aK cK):=Lk.first m ⟨c,1,cur,prev,slot,nn,keys,false,ee⟩ aK cK hof hoz
 obtain⟨f0,f1,f2,f3,f4,f5,f6,f7,f8,f9,f10,f11,f12,f13,ff,fs⟩:=Aa (show ((w.alloc of).alloc oz).heap[w.heap.size]?=some (.cells #[O J c.kind,O J c.a,O J c.b,O J c.time,O J c.bk,O J c.slot,O J 1,O J cur,O J prev,O J slot,O J nn,Y aK keys.length cK,.bool false,O J ee] 47 (0,0)) from HE.out.fb)
 unfold Ac at hoz
 clear m
 go_enter Tryz.func161,Tryz.ntmps161
 go_wp2_with fail
 rw[<- hof,<- hoz]
 generalize (w.alloc of).alloc oz=W0 at *
 subst hof hoz
 have HE1:Hid (Lk Xb w W0 B lo aS aH aF aL cS cH cF cL M ⟨c,1,cur,prev,slot,nn,keys,false,ee⟩ aK cK):=HE.out
 clear HE
 clear f0 f1 f2 f3 f4 f5 f6 f7 f8 f9 f10 f11 f12 f13 ff fs
 refine(HP.out _ HE1.out.m (HR.out.below HE1.out.bl)).mono ?_
 rintro e w2 ⟨⟨a2,c2,rfl,hr2,hl2,hd2⟩,hh2,hf2⟩
 have HK2:Hid (Ag w2 a2 c2 keys/\∀ ad,a2=some ad->aK=some ad\/w.heap.size+2<=ad.block):=⟨HKy.out ▸ hr2,fun ad h=>(hl2 ad h).imp id (fun h'=>Nat.le_trans (lt_of_block HE1.out.zb) h')⟩
 have HD2:Hid (g.done=false->a2=aK/\c2=cK):=hd2
 have HE2:Hid (Lk2 Xb w w2 (A8 B aS aH aF aL) B lo M' ⟨c,1,cur,prev,slot,nn,keys,false,ee⟩ aK cK):=HE1.out.after hh2 hf2
 clear HE1 hh2 hf2 hr2 hl2 hd2
 obtain⟨g0,g1,g2,g3,g4,g5,g6,g7,g8,g9,g10,g11,g12,g13,gf,gs⟩:=Aa HE2.out.zb
 go_wp2
 refine bodyPost_ret (v:=.agg #[O J g.c.kind,O J g.c.a,O J g.c.b,O J g.c.time,O J g.c.bk,O J g.c.slot,O J g.pl,O J g.cur,O J g.prev,O J g.slot,O J g.n,Y a2 g.keys.length c2,.bool g.done,O J g.e]) (by simp[results,Tryz.results161,go_sem,g0,g1,g2,g3,g4,g5,g6,g7,g8,g9,g10,g11,g12,g13]) rfl ⟨⟨a2,c2,rfl,by rw[HKy.out];exact Ez rfl HK2.out.1 HR.out HK2.out.2,(fun ad h=>(HK2.out.2 ad h).imp id (fun h'=>by omega)),HD2.out⟩,HE2.out.Ah⟩
set_option maxHeartbeats 1600000 in
theorem b6z(t:Int)(M M':Mm)(g:Fr)(c:Cl)(cur prev slot nn ee:Int)(keys:List (Int × Int))(B lo:Nat)(aS aH aF aL:Option Addr)(cS cH cF cL:Nat)(aK:Option Addr)(cK:Nat)(w:World)
  (m:Mine Xb w B lo aS aH aF aL cS cH cF cL M) (HR:Hid (Ag w aK cK keys)) (HKy:Hid (g.keys=keys))
  (HP:Hid (∀ (W:World),Mine Xb W B lo aS aH aF aL cS cH cF cL M->Ag W aK cK keys->Calls Tryz.prog 191 #[.pointer (some ⟨B,0,none⟩),.agg #[O J c.kind,O J c.a,O J c.b,O J c.time,O J c.bk,O J c.slot,O J 2,O J cur,O J prev,O J slot,O J nn,Y aK keys.length cK,.bool false,O J ee]] W fun e w'=>Ret W w' e g aK cK/\Has Xb w' B lo (Up W (A8 B aS aH aF aL)) M'/\Fine W w' (A8 B aS aH aF aL))) :
  Calls Tryz.prog 161 #[.pointer (some ⟨B,0,none⟩),.agg #[O J c.kind,O J c.a,O J c.b,O J c.time,O J c.bk,O J c.slot,O J 2,O J cur,O J prev,O J slot,O J nn,Y aK keys.length cK,.bool false,O J ee],O J t] w fun e w'=>Ret w w' e g aK cK/\Has Xb w' B lo (Up w (A8 B aS aH aF aL)) M'/\Fine w w' (A8 B aS aH aF aL):=by
 obtain⟨of,hof⟩:∃ o:Obj,o=.cells #[O J c.kind,O J c.a,O J c.b,O J c.time,O J c.bk,O J c.slot,O J 2,O J cur,O J prev,O J slot,O J nn,Y aK keys.length cK,.bool false,O J ee] 47:=⟨_,rfl⟩
 obtain⟨oz,hoz⟩:∃ o:Obj,o=Ac:=⟨_,rfl⟩
 have HE:Hid (Lk Xb w ((w.alloc of).alloc oz) B lo aS aH aF aL cS cH cF cL M ⟨c,2,cur,prev,slot,nn,keys,false,ee⟩ aK cK):=Lk.first m ⟨c,2,cur,prev,slot,nn,keys,false,ee⟩ aK cK hof hoz
 obtain⟨f0,f1,f2,f3,f4,f5,f6,f7,f8,f9,f10,f11,f12,f13,ff,fs⟩:=Aa (show ((w.alloc of).alloc oz).heap[w.heap.size]?=some (.cells #[O J c.kind,O J c.a,O J c.b,O J c.time,O J c.bk,O J c.slot,O J 2,O J cur,O J prev,O J slot,O J nn,Y aK keys.length cK,.bool false,O J ee] 47 (0,0)) from HE.out.fb)
 unfold Ac at hoz
 clear m
 go_enter Tryz.func161,Tryz.ntmps161
 go_wp2_with fail
 rw[<- hof,<- hoz]
 generalize (w.alloc of).alloc oz=W0 at *
 subst hof hoz
 have HE1:Hid (Lk Xb w W0 B lo aS aH aF aL cS cH cF cL M ⟨c,2,cur,prev,slot,nn,keys,false,ee⟩ aK cK):=HE.out
 clear HE
 clear f0 f1 f2 f3 f4 f5 f6 f7 f8 f9 f10 f11 f12 f13 ff fs
 refine(HP.out _ HE1.out.m (HR.out.below HE1.out.bl)).mono ?_
 rintro e w2 ⟨⟨a2,c2,rfl,hr2,hl2,hd2⟩,hh2,hf2⟩
 have HK2:Hid (Ag w2 a2 c2 keys/\∀ ad,a2=some ad->aK=some ad\/w.heap.size+2<=ad.block):=⟨HKy.out ▸ hr2,fun ad h=>(hl2 ad h).imp id (fun h'=>Nat.le_trans (lt_of_block HE1.out.zb) h')⟩
 have HD2:Hid (g.done=false->a2=aK/\c2=cK):=hd2
 have HE2:Hid (Lk2 Xb w w2 (A8 B aS aH aF aL) B lo M' ⟨c,2,cur,prev,slot,nn,keys,false,ee⟩ aK cK):=HE1.out.after hh2 hf2
 clear HE1 hh2 hf2 hr2 hl2 hd2
 obtain⟨g0,g1,g2,g3,g4,g5,g6,g7,g8,g9,g10,g11,g12,g13,gf,gs⟩:=Aa HE2.out.zb
 go_wp2
 refine bodyPost_ret (v:=.agg #[O J g.c.kind,O J g.c.a,O J g.c.b,O J g.c.time,O J g.c.bk,O J g.c.slot,O J g.pl,O J g.cur,O J g.prev,O J g.slot,O J g.n,Y a2 g.keys.length c2,.bool g.done,O J g.e]) (by simp[results,Tryz.results161,go_sem,g0,g1,g2,g3,g4,g5,g6,g7,g8,g9,g10,g11,g12,g13]) rfl ⟨⟨a2,c2,rfl,by rw[HKy.out];exact Ez rfl HK2.out.1 HR.out HK2.out.2,(fun ad h=>(HK2.out.2 ad h).imp id (fun h'=>by omega)),HD2.out⟩,HE2.out.Ah⟩
set_option maxHeartbeats 1600000 in
theorem b7a(t:Int)(M M':Mm)(g:Fr)(c:Cl)(cur prev slot nn ee:Int)(keys:List (Int × Int))(B lo:Nat)(aS aH aF aL:Option Addr)(cS cH cF cL:Nat)(aK:Option Addr)(cK:Nat)(w:World)
  (m:Mine Xb w B lo aS aH aF aL cS cH cF cL M) (HR:Hid (Ag w aK cK keys)) (HKy:Hid (g.keys=keys))
  (HP:Hid (∀ (W:World),Mine Xb W B lo aS aH aF aL cS cH cF cL M->Ag W aK cK keys->Calls Tryz.prog 192 #[.pointer (some ⟨B,0,none⟩),.agg #[O J c.kind,O J c.a,O J c.b,O J c.time,O J c.bk,O J c.slot,O J 3,O J cur,O J prev,O J slot,O J nn,Y aK keys.length cK,.bool false,O J ee]] W fun e w'=>Ret W w' e g aK cK/\Has Xb w' B lo (Up W (A8 B aS aH aF aL)) M'/\Fine W w' (A8 B aS aH aF aL))) :
  Calls Tryz.prog 161 #[.pointer (some ⟨B,0,none⟩),.agg #[O J c.kind,O J c.a,O J c.b,O J c.time,O J c.bk,O J c.slot,O J 3,O J cur,O J prev,O J slot,O J nn,Y aK keys.length cK,.bool false,O J ee],O J t] w fun e w'=>Ret w w' e g aK cK/\Has Xb w' B lo (Up w (A8 B aS aH aF aL)) M'/\Fine w w' (A8 B aS aH aF aL):=by
 obtain⟨of,hof⟩:∃ o:Obj,o=.cells #[O J c.kind,O J c.a,O J c.b,O J c.time,O J c.bk,O J c.slot,O J 3,O J cur,O J prev,O J slot,O J nn,Y aK keys.length cK,.bool false,O J ee] 47:=⟨_,rfl⟩
 obtain⟨oz,hoz⟩:∃ o:Obj,o=Ac:=⟨_,rfl⟩
 have HE:Hid (Lk Xb w ((w.alloc of).alloc oz) B lo aS aH aF aL cS cH cF cL M ⟨c,3,cur,prev,slot,nn,keys,false,ee⟩ aK cK):=Lk.first m ⟨c,3,cur,prev,slot,nn,keys,false,ee⟩ aK cK hof hoz
 obtain⟨f0,f1,f2,f3,f4,f5,f6,f7,f8,f9,f10,f11,f12,f13,ff,fs⟩:=Aa (show ((w.alloc of).alloc oz).heap[w.heap.size]?=some (.cells #[O J c.kind,O J c.a,O J c.b,O J c.time,O J c.bk,O J c.slot,O J 3,O J cur,O J prev,O J slot,O J nn,Y aK keys.length cK,.bool false,O J ee] 47 (0,0)) from HE.out.fb)
 unfold Ac at hoz
 clear m
 go_enter Tryz.func161,Tryz.ntmps161
 go_wp2_with fail
 rw[<- hof,<- hoz]
 generalize (w.alloc of).alloc oz=W0 at *
 subst hof hoz
 have HE1:Hid (Lk Xb w W0 B lo aS aH aF aL cS cH cF cL M ⟨c,3,cur,prev,slot,nn,keys,false,ee⟩ aK cK):=HE.out
 clear HE
 clear f0 f1 f2 f3 f4 f5 f6 f7 f8 f9 f10 f11 f12 f13 ff fs
 refine(HP.out _ HE1.out.m (HR.out.below HE1.out.bl)).mono ?_
 rintro e w2 ⟨⟨a2,c2,rfl,hr2,hl2,hd2⟩,hh2,hf2⟩
 have HK2:Hid (Ag w2 a2 c2 keys/\∀ ad,a2=some ad->aK=some ad\/w.heap.size+2<=ad.block):=⟨HKy.out ▸ hr2,fun ad h=>(hl2 ad h).imp id (fun h'=>Nat.le_trans (lt_of_block HE1.out.zb) h')⟩
 have HD2:Hid (g.done=false->a2=aK/\c2=cK):=hd2
 have HE2:Hid (Lk2 Xb w w2 (A8 B aS aH aF aL) B lo M' ⟨c,3,cur,prev,slot,nn,keys,false,ee⟩ aK cK):=HE1.out.after hh2 hf2
 clear HE1 hh2 hf2 hr2 hl2 hd2
 obtain⟨g0,g1,g2,g3,g4,g5,g6,g7,g8,g9,g10,g11,g12,g13,gf,gs⟩:=Aa HE2.out.zb
 go_wp2
 refine bodyPost_ret (v:=.agg #[O J g.c.kind,O J g.c.a,O J g.c.b,O J g.c.time,O J g.c.bk,O J g.c.slot,O J g.pl,O J g.cur,O J g.prev,O J g.slot,O J g.n,Y a2 g.keys.length c2,.bool g.done,O J g.e]) (by simp[results,Tryz.results161,go_sem,g0,g1,g2,g3,g4,g5,g6,g7,g8,g9,g10,g11,g12,g13]) rfl ⟨⟨a2,c2,rfl,by rw[HKy.out];exact Ez rfl HK2.out.1 HR.out HK2.out.2,(fun ad h=>(HK2.out.2 ad h).imp id (fun h'=>by omega)),HD2.out⟩,HE2.out.Ah⟩
end
end Go.Proofs.YthhgoenomehobaaGreat.mm
