/- Parts. -/
import Derived.Test.YthhgoenomehobaaGreatP30
import Derived.Test.YthhgoenomehobaaGreatP35
import Derived.Test.YthhgoenomehobaaGreatP20
import Derived.Test.YthhgoenomehobaaGreatP28
import Derived.Test.YthhgoenomehobaaGreatP21
import Derived.Test.YthhgoenomehobaaGreatP27
import Derived.Test.YthhgoenomehobaaGreatP25
import Derived.Test.YthhgoenomehobaaGreatP29
import Derived.Test.YthhgoenomehobaaGreatP26
import Derived.Test.YthhgoenomehobaaGreatP33
import Derived.Test.YthhgoenomehobaaGreatP32
import Derived.Test.YthhgoenomehobaaGreatP34
import Derived.Test.YthhgoenomehobaaGreatP23
import Derived.Test.YthhgoenomehobaaGreatP15
import Derived.Test.YthhgoenomehobaaGreatP06
import Derived.Test.YthhgoenomehobaaGreatP08
import Derived.Deep.RegionWith
import Derived.Deep.RegionHeld3
import Derived.Test.YthhgoenomehobaaGreatP10
namespace Go.Proofs.YthhgoenomehobaaGreat.mm
set_option maxRecDepth 100000
set_option linter.unusedVariables false
open Go.Value renaming int → O, slice → Y
open Go.IntKind renaming i64 → J
open Go.Proofs.Tryz renaming prog → Pg
open Go renaming World → Wq
open Go.ChangeShapes Go.WideShapes Go.ChangeAt Go.RowKit Go.Joins Go.Deep
set_option maxHeartbeats 6400000
section
open Go.Sort
variable {Xb:Ex}
theorem b0t(t:Int)(M:Mm)(f:Fr)(B lo:Nat)(aS aH aF aL:Option Addr)(cS cH cF cL:Nat)(aK:Option Addr)(cK:Nat)(w:Wq)
  (m:Mine Xb w B lo aS aH aF aL cS cH cF cL M) (hM:Ok M) (hf:Fit M f) (hk:f.c.kind=3) (r:Am w aK cK f.keys) (hz:∀ ad,aK=some ad->¬ Ac B aS aH aF aL ad.block) :
  Calls Pg 160 #[.pointer (some ⟨B,0,none⟩),.agg #[O J f.c.kind,O J f.c.a,O J f.c.b,O J f.c.time,O J f.c.bk,O J f.c.slot,O J f.pl,O J f.cur,O J f.prev,O J f.slot,O J f.n,Y aK f.keys.length cK,.bool f.done,O J f.e],O J t] w fun e w'=>Ret w w' e (drF M f) aK cK/\Has Xb w' B lo (Up w (Ac B aS aH aF aL)) (drM t M f)/\Fine w w' (Ac B aS aH aF aL):=by
 have ky:(drF M f).keys=f.keys:=a7f M f
 have h8:f.pl=0\/f.pl=1\/f.pl=2\/f.pl=3\/f.pl=4\/f.pl=5\/f.pl=6\/7<=f.pl:=by have:=hf.pl;omega
 rcases h8 with hp|hp|hp|hp|hp|hp|hp|hp
 ·rw[drF0 hp] at ky ⊢;rw[drM0 hp]
  exact Jr t M f B lo aS aH aF aL cS cH cF cL aK cK w m hf.done (.inl ⟨hp,rfl,rfl⟩) fun W h=>(b0d t M f B lo aS aH aF aL cS cH cF cL aK cK W h.m hM hf (r.below h.bl) hz rfl rfl).mono fun e w2 h'=>D9 h h' ky r
 ·rw[drF1 hp] at ky ⊢;rw[Ip (by omega)]
  exact Jr t M f B lo aS aH aF aL cS cH cF cL aK cK w m hf.done (.inr (.inl ⟨hp,rfl,rfl⟩)) fun W h=>(a7g M f B lo aS aH aF aL cS cH cF cL aK cK W h.m hM hf (r.below h.bl) hz).mono fun e w2 h'=>D9 h h' ky r
 ·rw[drF2 hp] at ky ⊢;rw[Ip (by omega)]
  exact Jr t M f B lo aS aH aF aL cS cH cF cL aK cK w m hf.done (.inr (.inr (.inl ⟨hp,rfl,rfl⟩))) fun W h=>(b2s M f B lo aS aH aF aL cS cH cF cL aK cK W h.m hM hf (r.below h.bl) hz rfl).mono fun e w2 h'=>D9 h h' ky r
 ·rw[drF3 hp] at ky ⊢;rw[Ip (by omega)]
  exact Jr t M f B lo aS aH aF aL cS cH cF cL aK cK w m hf.done (.inr (.inr (.inr (.inl ⟨hp,rfl,rfl⟩)))) fun W h=>(b0e M f B lo aS aH aF aL cS cH cF cL aK cK W h.m hM hf (r.below h.bl) hz rfl).mono fun e w2 h'=>D9 h h' ky r
 ·rw[drF4 hp] at ky ⊢;rw[drM4 hp]
  exact Jr t M f B lo aS aH aF aL cS cH cF cL aK cK w m hf.done (.inr (.inr (.inr (.inr (.inl ⟨hp,rfl,rfl⟩))))) fun W h=>(b3g M f B lo aS aH aF aL cS cH cF cL aK cK W h.m hM hf (r.below h.bl) hz).mono fun e w2 h'=>D9 h h' ky r
 ·rw[drF5 hp] at ky ⊢;rw[drM5 hp]
  exact Jr t M f B lo aS aH aF aL cS cH cF cL aK cK w m hf.done (.inr (.inr (.inr (.inr (.inr (.inl ⟨hp,rfl,rfl⟩)))))) fun W h=>(a2w t M f B lo aS aH aF aL cS cH cF cL aK cK W h.m hM hf (r.below h.bl) hz rfl rfl).mono fun e w2 h'=>D9 h h' ky r
 ·rw[drF6 hp] at ky ⊢;rw[drM6 hp]
  exact Jr t M f B lo aS aH aF aL cS cH cF cL aK cK w m hf.done (.inr (.inr (.inr (.inr (.inr (.inr (.inl ⟨hp,rfl,rfl⟩))))))) fun W h=>(b2r M f B lo aS aH aF aL cS cH cF cL aK cK W h.m hM hf (r.below h.bl) hz rfl rfl).mono fun e w2 h'=>D9 h h' ky r
 ·rw[drF7 hp,Ip (by omega)]
  exact Jr t M f B lo aS aH aF aL cS cH cF cL aK cK w m hf.done (.inr (.inr (.inr (.inr (.inr (.inr (.inr (⟨hp,rfl,rfl⟩)))))))) fun W h=>(Pj f aK cK W).mono fun e w2 h'=>D9 h ⟨⟨aK,cK,h'.1,(r.below h.bl).below h'.2,fun _ h=>.inl h,fun _=>⟨rfl,rfl⟩⟩,Oo h.m h'.2⟩ rfl r
end
section
open Go.Sort
variable {Xb:Ex}
theorem a2j(M:Mm)(f:Fr):(Eh M f).done=f.done:=by
 unfold Eh
 split
 ·split
  ·rfl
  ·split <;> rfl
 ·rfl
theorem Jb{w:Wq}{R R':Ending->Wq->Prop}(h:∀ e w',R e w'->R' e w'){e:Ending}{V:Wq}(q:StQ w R e V):StQ w R' e V:=by
 obtain⟨g,a,c,h1,h2,h3,h4⟩:=q
 exact⟨g,a,c,h1,h2,h3,h _ _ h4⟩
theorem a3p(t:Int)(M:Mm)(f:Fr)(B lo:Nat)(aS aH aF aL:Option Addr)(cS cH cF cL:Nat)(aK:Option Addr)(cK:Nat)(w:Wq)
  (m:Mine Xb w B lo aS aH aF aL cS cH cF cL M) (hM:Ok M) (hf:Fit M f) (hk:f.c.kind=4\/f.c.kind=5) (r:Am w aK cK f.keys) (hz:∀ ad,aK=some ad->¬ Ac B aS aH aF aL ad.block) :
  Calls Pg 161 #[.pointer (some ⟨B,0,none⟩),.agg #[O J f.c.kind,O J f.c.a,O J f.c.b,O J f.c.time,O J f.c.bk,O J f.c.slot,O J f.pl,O J f.cur,O J f.prev,O J f.slot,O J f.n,Y aK f.keys.length cK,.bool f.done,O J f.e],O J t] w fun e w'=>a0l w w' e (swF M f) aK cK f.keys/\Has Xb w' B lo (Up w (Ac B aS aH aF aL)) (swM t M f)/\Fine w w' (Ac B aS aH aF aL):=by
 have h8:f.pl=0\/f.pl=1\/f.pl=2\/f.pl=3\/f.pl=4\/f.pl=5\/f.pl=6\/7<=f.pl:=by have:=hf.pl;omega
 rcases h8 with hp|hp|hp|hp|hp|hp|hp|hp
 ·rw[swF0 hp,swM0 hp]
  exact Jc t M f B lo aS aH aF aL cS cH cF cL aK cK w m hf.done (.inl ⟨hp,rfl,rfl⟩) fun W h=>(b0i t M f B lo aS aH aF aL cS cH cF cL aK cK W h.m hM hf (r.below h.bl) hz rfl rfl).mono fun e w2 h'=>Jb (fun e w' q=>⟨q.1.s (by unfold Fh;split <;> exact hf.done) (by unfold Fh;split <;> rfl),q.2⟩) (D9 h h' (by unfold Fh;split <;> rfl) r)
 ·rw[swF1 hp,I4 (by omega)]
  exact Jc t M f B lo aS aH aF aL cS cH cF cL aK cK w m hf.done (.inr (.inl ⟨hp,rfl,rfl⟩)) fun W h=>(a9t M f B lo aS aH aF aL cS cH cF cL aK cK W h.m hM hf (r.below h.bl) hz).mono fun e w2 h'=>Jb (fun e w' q=>⟨q.1.s (hf.done) (rfl),q.2⟩) (D9 h h' (rfl) r)
 ·rw[b2h hp,I4 (by omega)]
  rcases a2k M f B lo aS aH aF aL cS cH cF cL aK cK hM hf hk hz with ⟨hky,hp'⟩|hp'
  ·exact Jc t M f B lo aS aH aF aL cS cH cF cL aK cK w m hf.done (.inr (.inr (.inl ⟨hp,rfl,rfl⟩))) fun W h=>(hp' W h.m (r.below h.bl)).mono fun e w2 h'=>Jb (fun e w' q=>⟨q.1.s ((a2j M f).trans hf.done) (hky),q.2⟩) (D9 h h' (hky) r)
  ·exact Jc t M f B lo aS aH aF aL cS cH cF cL aK cK w m hf.done (.inr (.inr (.inl ⟨hp,rfl,rfl⟩))) fun W h=>(hp' W h.m (r.below h.bl)).mono fun e w2 h'=>Jb (fun e w' q=>⟨.inr q.1,q.2⟩) (a3o h h')
 ·rw[swF3 hp,I4 (by omega)]
  exact Jc t M f B lo aS aH aF aL cS cH cF cL aK cK w m hf.done (.inr (.inr (.inr (.inl ⟨hp,rfl,rfl⟩)))) fun W h=>(b0j M f B lo aS aH aF aL cS cH cF cL aK cK W h.m hM hf (r.below h.bl) hz rfl).mono fun e w2 h'=>Jb (fun e w' q=>⟨q.1.s (by unfold Jm;split <;> exact hf.done) (by unfold Jm;split <;> rfl),q.2⟩) (D9 h h' (by unfold Jm;split <;> rfl) r)
 ·rw[swF4 hp,swM4 hp]
  exact Jc t M f B lo aS aH aF aL cS cH cF cL aK cK w m hf.done (.inr (.inr (.inr (.inr (.inl ⟨hp,rfl,rfl⟩))))) fun W h=>(b2i M f B lo aS aH aF aL cS cH cF cL aK cK W h.m hM hf (r.below h.bl) hz).mono fun e w2 h'=>Jb (fun e w' q=>⟨q.1.s (by unfold Jy;split <;> exact hf.done) (by unfold Jy;split <;> rfl),q.2⟩) (D9 h h' (by unfold Jy;split <;> rfl) r)
 ·rw[swF5 hp,swM5 hp]
  exact Jc t M f B lo aS aH aF aL cS cH cF cL aK cK w m hf.done (.inr (.inr (.inr (.inr (.inr (.inl ⟨hp,rfl,rfl⟩)))))) fun W h=>(b2u M f B lo aS aH aF aL cS cH cF cL aK cK W h.m hM hf (r.below h.bl) hz rfl rfl).mono fun e w2 h'=>Jb (fun e w' q=>⟨q.1.s (by unfold Nk;split <;> exact hf.done) (by unfold Nk;split <;> rfl),q.2⟩) (D9 h h' (by unfold Nk;split <;> rfl) r)
 ·rw[swF6 hp,swM6 hp]
  exact Jc t M f B lo aS aH aF aL cS cH cF cL aK cK w m hf.done (.inr (.inr (.inr (.inr (.inr (.inr (.inl ⟨hp,rfl,rfl⟩))))))) fun W h=>(a2x t M f B lo aS aH aF aL cS cH cF cL aK cK W h.m hM hf (r.below h.bl) hz rfl rfl).mono fun e w2 h'=>Jb (fun e w' q=>⟨.inr q.1,q.2⟩) (a3o h h')
 ·rw[swF7 hp,I4 (by omega)]
  exact Jc t M f B lo aS aH aF aL cS cH cF cL aK cK w m hf.done (.inr (.inr (.inr (.inr (.inr (.inr (.inr (⟨hp,rfl,rfl⟩)))))))) fun W h=>(Qd f aK cK W).mono fun e w2 h'=>Jb (fun e w' q=>⟨q.1.s hf.done rfl,q.2⟩) (D9 h ⟨⟨aK,cK,h'.1,(r.below h.bl).below h'.2,fun _ h=>.inl h,fun _=>⟨rfl,rfl⟩⟩,Oo h.m h'.2⟩ rfl r)
end
section
theorem a3c{Xb:Ex}{w:Wq}{B lo:Nat}{aS aH aF aL:Option Addr}{cS cH cF cL:Nat}{M:Mm}(m:Mine Xb w B lo aS aH aF aL cS cH cF cL M):∀ k,Ac B aS aH aF aL k->k<w.heap.size:=by
 rintro k (rfl|⟨ad,rfl,rfl⟩|⟨ad,rfl,rfl⟩|⟨ad,rfl,rfl⟩|⟨ad,rfl,rfl⟩)
 ·exact lt_of_block m.box
 ·exact(m.c.s.lt ad.block rfl).2
 ·exact(m.c.h.lt ad.block rfl).2
 ·exact(m.c.f.lt ad.block rfl).2
 ·exact(m.c.l.lt ad.block rfl).2
theorem Yf{M:Mm}{f:Fr}(h:Fit M f):(swF M f).keys.length<=1000:=by
 have hk:=h.keys
 rcases a9s M f with e|⟨-,h1,e⟩
 ·rw[e];omega
 ·rw[e,List.length_append];simp;omega
theorem Lc{Xb:Ex}(M:Mm)(B lo:Nat)(aS aH aF aL:Option Addr)(cS cH cF cL:Nat)(g cT lo2 i:Nat)(l:List (Tk × TkV))(w:Wq)(m:Mine Xb w B lo aS aH aF aL cS cH cF cL M)(hM:Ok M)(T:Bo w lo2 g cT l)(hi:i<l.length)(ap:∀ k,Ac B aS aH aF aL k->¬ TB g l k)(hsl:∀ a∈l[i].1.held,Dc M a=true)(kz:∀ p∈l,∀ a,p.2.aK=some a->a.block<w.heap.size){f:Fr}{aK:Option Addr}{cK:Nat}(hff:f=l[i].1.f)(haK:aK=l[i].2.aK)(hcK:cK=l[i].2.cK){n:Nat}{ar:Array Value}{G:Fr}{N:Mm}
  (hn:f.c.kind=1/\n=158/\ar=#[.pointer (some ⟨B,0,none⟩),.agg #[O J f.c.kind,O J f.c.a,O J f.c.b,O J f.c.time,O J f.c.bk,O J f.c.slot,O J f.pl,O J f.cur,O J f.prev,O J f.slot,O J f.n,Y aK f.keys.length cK,.bool f.done,O J f.e]]\/f.c.kind=2/\n=159/\ar=#[.pointer (some ⟨B,0,none⟩),.agg #[O J f.c.kind,O J f.c.a,O J f.c.b,O J f.c.time,O J f.c.bk,O J f.c.slot,O J f.pl,O J f.cur,O J f.prev,O J f.slot,O J f.n,Y aK f.keys.length cK,.bool f.done,O J f.e],O J (i:Int)]\/f.c.kind=3/\n=160/\ar=#[.pointer (some ⟨B,0,none⟩),.agg #[O J f.c.kind,O J f.c.a,O J f.c.b,O J f.c.time,O J f.c.bk,O J f.c.slot,O J f.pl,O J f.cur,O J f.prev,O J f.slot,O J f.n,Y aK f.keys.length cK,.bool f.done,O J f.e],O J (i:Int)]\/f.c.kind=4/\n=161/\ar=#[.pointer (some ⟨B,0,none⟩),.agg #[O J f.c.kind,O J f.c.a,O J f.c.b,O J f.c.time,O J f.c.bk,O J f.c.slot,O J f.pl,O J f.cur,O J f.prev,O J f.slot,O J f.n,Y aK f.keys.length cK,.bool f.done,O J f.e],O J (i:Int)]\/f.c.kind=5/\n=161/\ar=#[.pointer (some ⟨B,0,none⟩),.agg #[O J f.c.kind,O J f.c.a,O J f.c.b,O J f.c.time,O J f.c.bk,O J f.c.slot,O J f.pl,O J f.cur,O J f.prev,O J f.slot,O J f.n,Y aK f.keys.length cK,.bool f.done,O J f.e],O J (i:Int)])
  (HS:∀ W:Wq,Mine Xb W B lo aS aH aF aL cS cH cF cL M->Am W aK cK f.keys->(∀ ad,aK=some ad->¬ Ac B aS aH aF aL ad.block)->Calls Pg n ar W fun e w'=>(∃ a c,e=.returned (.agg #[O J G.c.kind,O J G.c.a,O J G.c.b,O J G.c.time,O J G.c.bk,O J G.c.slot,O J G.pl,O J G.cur,O J G.prev,O J G.slot,O J G.n,Y a G.keys.length c,.bool G.done,O J G.e])/\Am w' a c G.keys/\∀ ad,a=some ad->aK=some ad\/W.heap.size<=ad.block)/\Has Xb w' B lo (Up W (Ac B aS aH aF aL)) N/\Fine W w' (Ac B aS aH aF aL)) :
  Calls Pg 142 #[.pointer (some ⟨B,0,none⟩),.pointer (some ⟨g,i*16,none⟩),O J (i:Int)] w (X6 Xb w B lo (Ac B aS aH aF aL) lo2 g cT l i N G l[i].1.held):=by
 have hpi:=List.getElem_mem hi
 have hgz:=T.glo.2
 have c1:w.cell? ⟨g,i*16+1,none⟩=some (O J l[i].1.f.c.kind):=T.cell (q:=1) hi (by decide)
 obtain⟨oz,hoz⟩:∃ o:Obj,o=.cells #[O J 0,O J 0,O J 0,O J 0,O J 0,O J 0,O J 0,O J 0,O J 0,O J 0,O J 0,Y none 0 0,.bool false,O J 0] 47:=⟨_,rfl⟩
 have b0:Below w.heap.size w (w.alloc oz):=A7 w oz
 have HZ0:Hid ((w.alloc oz).heap[w.heap.size]?=some oz):=heap_alloc_new w oz
 have HT0:Hid (Bo (w.alloc oz) lo2 g cT l):=T.below b0
 have hfz:=a3c m
 have m0:=m.below b0
 have hr0:Am (w.alloc oz) l[i].2.aK l[i].2.cK l[i].1.f.keys:=(T.keys _ hpi).below b0
 have hz0:∀ ad,l[i].2.aK=some ad->¬ Ac B aS aH aF aL ad.block:=fun ad e h=>ap _ h (.inr (.inr ⟨_,hpi,ad,e,rfl⟩))
 have lF:Hid ((w.alloc oz).rangeAt g (i*16+1) (f.enc aK cK)):=by rw[hff,haK,hcK];exact HT0.out.Q7 hi
 rw[<- hff] at c1 hr0
 rw[<- haK,<- hcK] at hr0
 rw[<- haK] at hz0
 have HaK:Hid (aK=l[i].2.aK):=haK
 have HStep:Hid (Calls Pg n ar (w.alloc oz) fun e w'=>(∃ a c,e=.returned (.agg #[O J G.c.kind,O J G.c.a,O J G.c.b,O J G.c.time,O J G.c.bk,O J G.c.slot,O J G.pl,O J G.cur,O J G.prev,O J G.slot,O J G.n,Y a G.keys.length c,.bool G.done,O J G.e])/\Am w' a c G.keys/\∀ ad,a=some ad->aK=some ad\/(w.alloc oz).heap.size<=ad.block)/\Has Xb w' B lo (Up (w.alloc oz) (Ac B aS aH aF aL)) N/\Fine (w.alloc oz) w' (Ac B aS aH aF aL)):=HS _ m0 hr0 hz0
 have HAp:Hid (∀ k,Ac B aS aH aF aL k->¬ TB g l k):=ap
 have HFz:Hid (∀ k,Ac B aS aH aF aL k->k<w.heap.size):=hfz
 have HKz:Hid (∀ p∈l,∀ a,p.2.aK=some a->a.block<w.heap.size):=kz
 have HTl:Hid (∀ p∈l,∀ a,p.2.aH=some a->a.block<w.heap.size):=fun p hp a ha=>(T.hlo hp ha).2
 have zw0:(w.alloc oz).heap.size=w.heap.size+1:=by simp
 clear m T ap hsl kz hff haK hcK m0 hr0 hz0 hM hfz HS
 subst hoz
 rcases hn with ⟨hk,rfl,rfl⟩|⟨hk,rfl,rfl⟩|⟨hk,rfl,rfl⟩|⟨hk,rfl,rfl⟩|⟨hk,rfl,rfl⟩
 all_goals
  rw[hk] at c1
  clear hk
  go_enter Tryz.func142,Tryz.ntmps142
  go_wp2_with (refine We rfl _ rfl rfl lF.out ?_)
  clear lF c1
  obtain⟨W0,hW0⟩:∃ W0,W0=w.alloc (.cells #[O J 0,O J 0,O J 0,O J 0,O J 0,O J 0,O J 0,O J 0,O J 0,O J 0,O J 0,Y none 0 0,.bool false,O J 0] 47):=⟨_,rfl⟩
  rw[<- hW0] at HZ0 HT0 HStep b0 zw0 ⊢
  clear hW0
  refine HStep.out.mono ?_
  rintro e w1 ⟨⟨a1,c1,rfl,hk1,ha1⟩,hH1,hF1⟩
  have HZ1:Hid (w1.heap[w.heap.size]?=_):=(hF1.block _ (lt_of_block HZ0.out) (fun h=>by have:=HFz.out _ h;omega)).trans HZ0.out
  have HT1:Hid (Bo w1 lo2 g cT l):=HT0.out.fine hF1 HAp.out
  have t3:Hid (w1.there w.heap.size 0 14):=Az HZ1.out (by simp)
  have HB4:Hid ((w1.setCells w.heap.size 0 (G.enc a1 c1)).heap[w.heap.size]?=some (.cells #[O J G.c.kind,O J G.c.a,O J G.c.b,O J G.c.time,O J G.c.bk,O J G.c.slot,O J G.pl,O J G.cur,O J G.prev,O J G.slot,O J G.n,Y a1 G.keys.length c1,.bool G.done,O J G.e] 47 (0,0))):=Bi HZ1.out rfl
  have HH4:Hid (Has Xb (w1.setCells w.heap.size 0 (G.enc a1 c1)) B lo (Up w (Ac B aS aH aF aL)) N):=(hH1.mono fun j _ h=>h.imp id (fun h=>by omega)).cells HZ1.out _
  have HT4:Hid (Bo (w1.setCells w.heap.size 0 (G.enc a1 c1)) lo2 g cT l):=HT1.out.same fun k hk htb=>Ad (fun e=>by
   subst e
   rcases htb with h|⟨p,hp,a,ha,h⟩|⟨p,hp,a,ha,h⟩
   ·omega
   ·have:=HTl.out p hp a ha;omega
   ·have:=HKz.out p hp a ha;omega) _ _ _
  have HF4:Hid (Fine w (w1.setCells w.heap.size 0 (G.enc a1 c1)) (fun k=>Ac B aS aH aF aL k\/TB g l k)):=Gw (((Fine.of_below _ b0:Fine w W0 (Ac B aS aH aF aL)).trans hF1 (fun j _ h=>h)).mono fun k h=>.inl h) (.inr (Nat.le_refl _))
  have hlK:∀ ad,a1=some ad->l[i].2.aK=some ad\/w.heap.size<ad.block:=fun ad e=>(ha1 ad e).imp (fun h=>by rw[<- HaK.out];exact h) (fun h=>by omega)
  have HK4:Hid (Am (w1.setCells w.heap.size 0 (G.enc a1 c1)) a1 c1 G.keys):=Ec hk1 fun _ ad e _=>Ad (by
   rcases hlK ad e with h|h
   ·have:=HKz.out _ hpi ad h;omega
   ·omega) _ _ _
  have HA4:Hid (∀ ad,a1=some ad->l[i].2.aK=some ad\/w.heap.size<=ad.block):=fun ad e=>(hlK ad e).imp id (fun h=>by omega)
  clear hk1 ha1 hH1 hF1 HZ0 HT0 HZ1 HT1 b0 HStep hlK
  go_wp2_with (refine Bd (f:=G) rfl _ _ rfl rfl rfl t3.out ?_)
  clear t3
  generalize w1.setCells w.heap.size 0 (G.enc a1 c1)=W4 at *
  refine bodyPost_ret (results_cell_row Tryz.results142 _ W4 w.heap.size 47 _ (0,0) _ rfl HB4.out Tryz.underlying47 rfl (by kernel_rfl)) rfl ?_
  exact⟨a1,c1,rfl,HK4.out,fun ad e=>(HA4.out ad e).imp (fun h=>⟨hi,h⟩) id,HH4.out,⟨hi,by have h:=set_self hi;exact h.symm ▸ HT4.out⟩,HF4.out⟩
theorem a2i{Xb:Ex}(M:Mm)(B lo:Nat)(aS aH aF aL:Option Addr)(cS cH cF cL:Nat)(g cT lo2 i:Nat)(l:List (Tk × TkV))(w:Wq)(m:Mine Xb w B lo aS aH aF aL cS cH cF cL M)(hM:Ok M)(T:Bo w lo2 g cT l)(hi:i<l.length)(ap:∀ k,Ac B aS aH aF aL k->¬ TB g l k)(hsl:∀ a∈l[i].1.held,Dc M a=true)(kz:∀ p∈l,∀ a,p.2.aK=some a->a.block<w.heap.size)(hk:l[i].1.f.c.kind=6) :
  Calls Pg 142 #[.pointer (some ⟨B,0,none⟩),.pointer (some ⟨g,i*16,none⟩),O J (i:Int)] w (X6 Xb w B lo (Ac B aS aH aF aL) lo2 g cT l i (if l[i].1.f.c.slot∈l[i].1.held then Em M l[i].1.f.c.slot else M) (Ag l[i].1.f 0) (l[i].1.held.erase l[i].1.f.c.slot)):=by
 have hpi:=List.getElem_mem hi
 have hgz:=T.glo.2
 have c1:w.cell? ⟨g,i*16+1,none⟩=some (O J 6):=by rw[<- hk];exact T.cell (q:=1) hi (by decide)
 obtain⟨oz,hoz⟩:∃ o:Obj,o=.cells #[O J 0,O J 0,O J 0,O J 0,O J 0,O J 0,O J 0,O J 0,O J 0,O J 0,O J 0,Y none 0 0,.bool false,O J 0] 47:=⟨_,rfl⟩
 have b0:Below w.heap.size w (w.alloc oz):=A7 w oz
 have HZ0:Hid ((w.alloc oz).heap[w.heap.size]?=some oz):=heap_alloc_new w oz
 have hfz:=a3c m
 have zw0:(w.alloc oz).heap.size=w.heap.size+1:=by simp
 have HStep:Hid (Calls Pg 162 #[.pointer (some ⟨B,0,none⟩),.pointer (some ⟨g,i*16,none⟩)] (w.alloc oz) (X6 Xb (w.alloc oz) B lo (Ac B aS aH aF aL) lo2 g cT l i (if l[i].1.f.c.slot∈l[i].1.held then Em M l[i].1.f.c.slot else M) (Ag l[i].1.f 0) (l[i].1.held.erase l[i].1.f.c.slot))) :=
  a4u M B lo (Ac B aS aH aF aL) g cT lo2 i l _ ⟨aS,aH,aF,aL,cS,cH,cF,cL,m.below b0,fun _ h=>h⟩ hM (T.below b0) hi ap hsl (fun p hp a ha=>by have:=kz p hp a ha;omega) (fun k h=>by have:=hfz k h;omega)
 obtain⟨G,hG⟩:∃ G,G=Ag l[i].1.f 0:=⟨_,rfl⟩
 obtain⟨N,hN⟩:∃ N,N=if l[i].1.f.c.slot∈l[i].1.held then Em M l[i].1.f.c.slot else M:=⟨_,rfl⟩
 obtain⟨h',hh'⟩:∃ h',h'=l[i].1.held.erase l[i].1.f.c.slot:=⟨_,rfl⟩
 rw[<- hG,<- hN,<- hh'] at HStep ⊢
 have HFz:Hid (∀ k,Ac B aS aH aF aL k->k<w.heap.size):=hfz
 have HKz:Hid (∀ p∈l,∀ a,p.2.aK=some a->a.block<w.heap.size):=kz
 have HTl:Hid (∀ p∈l,∀ a,p.2.aH=some a->a.block<w.heap.size):=fun p hp a ha=>(T.hlo hp ha).2
 have HTn:Hid (¬ TB g l w.heap.size):=by
  rintro (h|⟨p,hp,a,ha,h⟩|⟨p,hp,a,ha,h⟩)
  ·omega
  ·have:=HTl.out p hp a ha;omega
  ·have:=HKz.out p hp a ha;omega
 clear m T ap hsl kz hG hN hM hfz hk hh'
 subst hoz
 go_enter Tryz.func142,Tryz.ntmps142
 go_wp2_with fail
 clear c1
 obtain⟨W0,hW0⟩:∃ W0,W0=w.alloc (.cells #[O J 0,O J 0,O J 0,O J 0,O J 0,O J 0,O J 0,O J 0,O J 0,O J 0,O J 0,Y none 0 0,.bool false,O J 0] 47):=⟨_,rfl⟩
 rw[<- hW0] at HZ0 HStep b0 zw0 ⊢
 clear hW0
 refine HStep.out.mono ?_
 rintro e w1 ⟨a1,c1,rfl,hk1,ha1,hH1,⟨hiq,hT1⟩,hF1⟩
 have HZ1:Hid (w1.heap[w.heap.size]?=_):=(hF1.block _ (lt_of_block HZ0.out) (fun h=>h.elim (fun h=>by have:=HFz.out _ h;omega) HTn.out)).trans HZ0.out
 have t3:Hid (w1.there w.heap.size 0 14):=Az HZ1.out (by simp)
 have HB4:Hid ((w1.setCells w.heap.size 0 (G.enc a1 c1)).heap[w.heap.size]?=some (.cells #[O J G.c.kind,O J G.c.a,O J G.c.b,O J G.c.time,O J G.c.bk,O J G.c.slot,O J G.pl,O J G.cur,O J G.prev,O J G.slot,O J G.n,Y a1 G.keys.length c1,.bool G.done,O J G.e] 47 (0,0))):=Bi HZ1.out rfl
 have HH4:Hid (Has Xb (w1.setCells w.heap.size 0 (G.enc a1 c1)) B lo (Up w (Ac B aS aH aF aL)) N):=(hH1.mono fun j _ h=>h.imp id (fun h=>by omega)).cells HZ1.out _
 have HT4:Hid (Bo (w1.setCells w.heap.size 0 (G.enc a1 c1)) lo2 g cT (l.set i (⟨l[i].1.busy,l[i].1.f,h'⟩,l[i].2))):=hT1.same fun k hk htb=>Ad (fun e=>by
  subst e
  rcases htb with h|⟨p,hp,a,ha,h⟩|⟨p,hp,a,ha,h⟩
  ·omega
  ·have h2:=hT1.held p hp
   rw[ha] at h2
   exact own_ne h2 HZ1.out (by decide) (by show some a.block=_;rw[h])
  ·rcases Ja hi hp with rfl|hp'
   ·have:=HKz.out _ hpi a ha;omega
   ·have:=HKz.out p hp' a ha;omega) _ _ _
 have HF4:Hid (Fine w (w1.setCells w.heap.size 0 (G.enc a1 c1)) (fun k=>Ac B aS aH aF aL k\/TB g l k)):=Gw ((Fine.of_below _ b0:Fine w W0 (fun k=>Ac B aS aH aF aL k\/TB g l k)).trans hF1 (fun j _ h=>h)) (.inr (Nat.le_refl _))
 have hlK:∀ ad,a1=some ad->l[i].2.aK=some ad\/w.heap.size<ad.block:=fun ad e=>(ha1 ad e).imp (fun ⟨_,h⟩=>h) (fun h=>by omega)
 have HK4:Hid (Am (w1.setCells w.heap.size 0 (G.enc a1 c1)) a1 c1 G.keys):=Ec hk1 fun _ ad e _=>Ad (by
  rcases hlK ad e with h|h
  ·have:=HKz.out _ hpi ad h;omega
  ·omega) _ _ _
 have HA4:Hid (∀ ad,a1=some ad->l[i].2.aK=some ad\/w.heap.size<=ad.block):=fun ad e=>(hlK ad e).imp id (fun h=>by omega)
 clear hk1 ha1 hH1 hF1 HZ0 HZ1 hT1 b0 HStep hlK
 go_wp2_with (refine Bd (f:=G) rfl _ _ rfl rfl rfl t3.out ?_)
 clear t3
 generalize w1.setCells w.heap.size 0 (G.enc a1 c1)=W4 at *
 refine bodyPost_ret (results_cell_row Tryz.results142 _ W4 w.heap.size 47 _ (0,0) _ rfl HB4.out Tryz.underlying47 rfl (by kernel_rfl)) rfl ?_
 exact⟨a1,c1,rfl,HK4.out,fun ad e=>(HA4.out ad e).imp (fun h=>⟨hi,h⟩) id,HH4.out,⟨hi,HT4.out⟩,HF4.out⟩
def O9(t:Tk):List Int:=if t.f.c.kind=6 then t.held.erase t.f.c.slot else t.held
theorem a9r{Xb:Ex}(M:Mm)(B lo:Nat)(aS aH aF aL:Option Addr)(cS cH cF cL:Nat)(g cT lo2 i:Nat)(l:List (Tk × TkV))(w:Wq)(m:Mine Xb w B lo aS aH aF aL cS cH cF cL M)(hM:Ok M)(T:Bo w lo2 g cT l)(hi:i<l.length)(ap:∀ k,Ac B aS aH aF aL k->¬ TB g l k)(hsl:∀ a∈l[i].1.held,Dc M a=true)(kz:∀ p∈l,∀ a,p.2.aK=some a->a.block<w.heap.size)(hf:Fit M l[i].1.f) :
  Calls Pg 142 #[.pointer (some ⟨B,0,none⟩),.pointer (some ⟨g,i*16,none⟩),O J (i:Int)] w (X6 Xb w B lo (Ac B aS aH aF aL) lo2 g cT l i (stepT M i l[i].1).1 (stepT M i l[i].1).2.f (O9 l[i].1)):=by
 have hk:=X9 hf.call
 unfold stepT O9
 by_cases h1:l[i].1.f.c.kind=1
 ·rw[if_pos h1,if_neg (by omega)]
  exact Lc M B lo aS aH aF aL cS cH cF cL g cT lo2 i l w m hM T hi ap hsl kz rfl rfl rfl (.inl ⟨h1,rfl,rfl⟩) fun W m' r' z'=>(a6c M _ B lo aS aH aF aL cS cH cF cL _ _ W m' hM hf r' z').mono fun e w' h=>by obtain⟨⟨a,c,h1,h2,h3,-⟩,h4⟩:=h;exact⟨⟨a,c,h1,h2,h3⟩,h4⟩
 rw[if_neg h1]
 by_cases h2:l[i].1.f.c.kind=2
 ·rw[if_pos h2,if_neg (by omega)]
  exact Lc M B lo aS aH aF aL cS cH cF cL g cT lo2 i l w m hM T hi ap hsl kz rfl rfl rfl (.inr (.inl ⟨h2,rfl,rfl⟩)) fun W m' r' z'=>(b0n i M _ B lo aS aH aF aL cS cH cF cL _ _ W m' hM hf h2 r' z').mono fun e w' h=>by obtain⟨⟨a,c,h1,h2,h3,-⟩,h4⟩:=h;exact⟨⟨a,c,h1,h2,h3⟩,h4⟩
 rw[if_neg h2]
 by_cases h3:l[i].1.f.c.kind=3
 ·rw[if_pos h3,if_neg (by omega)]
  exact Lc M B lo aS aH aF aL cS cH cF cL g cT lo2 i l w m hM T hi ap hsl kz rfl rfl rfl (.inr (.inr (.inl ⟨h3,rfl,rfl⟩))) fun W m' r' z'=>(b0t i M _ B lo aS aH aF aL cS cH cF cL _ _ W m' hM hf h3 r' z').mono fun e w' h=>by obtain⟨⟨a,c,h1,h2,h3,-⟩,h4⟩:=h;exact⟨⟨a,c,h1,h2,h3⟩,h4⟩
 rw[if_neg h3]
 by_cases h6:l[i].1.f.c.kind=6
 ·rw[if_pos h6,if_pos h6]
  exact a2i M B lo aS aH aF aL cS cH cF cL g cT lo2 i l w m hM T hi ap hsl kz h6
 rw[if_neg h6,if_neg h6]
 by_cases h4:l[i].1.f.c.kind=4
 ·exact Lc M B lo aS aH aF aL cS cH cF cL g cT lo2 i l w m hM T hi ap hsl kz rfl rfl rfl (.inr (.inr (.inr (.inl ⟨h4,rfl,rfl⟩)))) fun W m' r' z'=>(a3p i M _ B lo aS aH aF aL cS cH cF cL _ _ W m' hM hf (.inl h4) r' z').mono fun e w' h=>⟨h.1.three (Yf hf),h.2⟩
 ·exact Lc M B lo aS aH aF aL cS cH cF cL g cT lo2 i l w m hM T hi ap hsl kz rfl rfl rfl (.inr (.inr (.inr (.inr ⟨by omega,rfl,rfl⟩)))) fun W m' r' z'=>(a3p i M _ B lo aS aH aF aL cS cH cF cL _ _ W m' hM hf (.inr (by omega)) r' z').mono fun e w' h=>⟨h.1.three (Yf hf),h.2⟩
end
section
open Go.Maps
theorem U6{n0 B lo lo2 g cT n:Nat}{Z:Nat->Prop}{M:Mm}{l:List (Tk × TkV)}{w w':Wq}(H:Has (Xw (some ⟨g,0,none⟩) n cT) w' B lo Z M)(T:Bo w' lo2 g cT l)(hn:l.length=n)(hlo:n0<=lo)(hlo2:n0<=lo2)(hb:Kept w w' B n0){ts:List Tk}(hts:l.map (·.1)=ts):WP n0 B ⟨M,ts⟩ w w':=by
 obtain⟨aS,aH,aF,aL,cS,cH,cF,cL,m,-⟩:=H
 subst hn
 exact⟨aS,aH,aF,aL,cS,cH,cF,cL,some ⟨g,0,none⟩,cT,l,m.box,m.at,m.c.hi.mono hlo,T.a0d,T.thi.mono hlo2,hts,hb⟩
theorem WM.foot{w:Wq}{n0 B lo lo2:Nat}{aS aH aF aL:Option Addr}{cS cH cF cL:Nat}{M:Mm}{g cT n:Nat}{l:List (Tk × TkV)}(h:WM w n0 B lo lo2 aS aH aF aL cS cH cF cL M g cT n l):∀ k,Ac B aS aH aF aL k\/TB g l k->k=B\/n0<=k:=by
 have h2:=h.hlo;have h3:=h.hlo2
 have hi:=h.m.c.hi
 rintro k ((rfl|⟨ad,e,rfl⟩|⟨ad,e,rfl⟩|⟨ad,e,rfl⟩|⟨ad,e,rfl⟩)|(rfl|⟨p,hp,a,ha,rfl⟩|⟨p,hp,a,ha,rfl⟩))
 ·exact .inl rfl
 ·have:=hi.s ad e;exact .inr (by omega)
 ·have:=hi.h ad e;exact .inr (by omega)
 ·have:=hi.f ad e;exact .inr (by omega)
 ·have:=hi.l ad e;exact .inr (by omega)
 ·have:=h.t.glo.1;exact .inr (by omega)
 ·have:=(h.t.hlo hp ha).1;exact .inr (by omega)
 ·have:=h.t.klo p hp a ha;exact .inr (by omega)
theorem WM.size{w:Wq}{n0 B lo lo2:Nat}{aS aH aF aL:Option Addr}{cS cH cF cL:Nat}{M:Mm}{g cT n:Nat}{l:List (Tk × TkV)}(h:WM w n0 B lo lo2 aS aH aF aL cS cH cF cL M g cT n l):n0<=w.heap.size:=by
 have h1:=h.hlo2;have h2:=h.t.glo
 omega
theorem WM.kept{w w':Wq}{n0 B lo lo2:Nat}{aS aH aF aL:Option Addr}{cS cH cF cL:Nat}{M:Mm}{g cT n:Nat}{l:List (Tk × TkV)}(h:WM w n0 B lo lo2 aS aH aF aL cS cH cF cL M g cT n l)(hf:Fine w w' (fun k=>Ac B aS aH aF aL k\/TB g l k)):Kept w w' B n0 :=
 ⟨hf.os,hf.tape,hf.output,hf.size,fun k hk hne=>hf.block k (Nat.lt_of_lt_of_le hk h.size) (fun hz=>(h.foot k hz).elim hne (fun h'=>by omega))⟩
theorem a2g(M:Mm)(i:Nat)(t:Tk):(stepT M i t).2=⟨!(stepT M i t).2.f.done,(stepT M i t).2.f,if (stepT M i t).2.f.done=true/\(stepT M i t).2.f.c.kind=1/\(stepT M i t).2.f.e=0 then O9 t ++ [(stepT M i t).2.f.slot] else O9 t⟩:=by
 have hk:=a2h M i t
 rw[hk]
 by_cases h1:t.f.c.kind=1
 ·have e:stepT M i t=(lkM M t.f,a2m M t):=by unfold stepT;rw[if_pos h1]
  have e':O9 t=t.held:=by unfold O9;rw[if_neg (by omega)]
  rw[e,e']
  unfold a2m
  dsimp only
  by_cases hd:(lkF M t.f).done=true
  ·by_cases he:(lkF M t.f).e=0
   ·have c1:((lkF M t.f).done && (lkF M t.f).e==0)=true:=by simp[hd,he]
    have c2:(lkF M t.f).done=true/\t.f.c.kind=1/\(lkF M t.f).e=0:=⟨hd,h1,he⟩
    rw[if_pos c1,if_pos c2]
   ·have c1:¬ ((lkF M t.f).done && (lkF M t.f).e==0)=true:=by simp[he]
    have c2:¬ ((lkF M t.f).done=true/\t.f.c.kind=1/\(lkF M t.f).e=0):=fun h=>he h.2.2
    rw[if_neg c1,if_neg c2]
  ·have c1:¬ ((lkF M t.f).done && (lkF M t.f).e==0)=true:=by simp[hd]
   have c2:¬ ((lkF M t.f).done=true/\t.f.c.kind=1/\(lkF M t.f).e=0):=fun h=>hd h.1
   rw[if_neg c1,if_neg c2]
 ·have c2:¬ ((stepT M i t).2.f.done=true/\t.f.c.kind=1/\(stepT M i t).2.f.e=0):=fun h=>h1 h.2.1
  rw[if_neg c2]
  unfold stepT O9
  rw[if_neg h1]
  by_cases h2:t.f.c.kind=2
  ·have h6:¬ t.f.c.kind=6:=by omega
   rw[if_pos h2,if_neg h6];rfl
  rw[if_neg h2]
  by_cases h3:t.f.c.kind=3
  ·have h6:¬ t.f.c.kind=6:=by omega
   rw[if_pos h3,if_neg h6];rfl
  rw[if_neg h3]
  by_cases h6:t.f.c.kind=6
  ·rw[if_pos h6,if_pos h6];rfl
  ·rw[if_neg h6,if_neg h6];rfl
theorem a4m{w:Wq}{n0 B lo lo2:Nat}{aS aH aF aL:Option Addr}{cS cH cF cL:Nat}{M:Mm}{g cT n i:Nat}{l:List (Tk × TkV)}(h:WM w n0 B lo lo2 aS aH aF aL cS cH cF cL M g cT n l)(hi:i<l.length)(hb:l[i].1.busy=false) :
  Calls Pg 106 #[.pointer (some ⟨B,0,none⟩),O J (i:Int)] w fun e w'=>e=.returned (O J 8)/\w'=w:=by
 obtain⟨q0,q1,q2,q3,q4,q5,qs⟩:=Bc h.m.box
 have d0:=(h.t.busy hi).1
 rw[hb] at d0
 have hn:(i:Int)<(n:Int):=by rw[<- h.len];omega
 have hn5:n<=5:=by rw[<- h.len];exact h.t.few
 clear h hb
 go_enter Tryz.func106,Tryz.ntmps106
 go_wp2
 go_ret
 exact⟨rfl,rfl⟩
theorem a7p{w W3 w2:Wq}{n0 B lo lo2:Nat}{aS aH aF aL:Option Addr}{cS cH cF cL:Nat}{M N:Mm}{g cT n i g2 cap2:Nat}{l:List (Tk × TkV)}{F:Fr}{H:List Int}{a:Option Addr}{c:Nat}{t':Tk}{o:Obj}(h:WM w n0 B lo lo2 aS aH aF aL cS cH cF cL M g cT n l)(hi:i<l.length)
  (T:Bo W3 lo2 g cT (l.set i (⟨false,F,H⟩,⟨a,c,l[i].2.aH,l[i].2.cH⟩))) (HH:Has (Xw (some ⟨g,0,none⟩) n cT) W3 B lo (Up w (Ac B aS aH aF aL)) N) (hf:Fine w W3 (fun k=>Ac B aS aH aF aL k\/TB g l k))
  (ht:t'=⟨!F.done,F,if F.done=true/\F.c.kind=1/\F.e=0 then H ++ [F.slot] else H⟩) (hd:F.done=true) (hlk:F.c.kind=1/\F.e=0)
  (ho:w2.ownsRow lo2 3 1 (Y (some ⟨g2,0,none⟩) (H.length+1) cap2) (H.length+1) (encI H ++ [O J F.slot])) (hg:(W3.alloc o).grownBy w2 (Value.slice l[i].2.aH H.length l[i].2.cH).ownBlock)
  (hl:(some g2:Option Nat)=(Value.slice l[i].2.aH H.length l[i].2.cH).ownBlock\/some g2=some (W3.alloc o).heap.size) (hn:H.length<=100) :
  WP n0 B ⟨N,(l.map (·.1)).set i t'⟩ w (w2.setCell ⟨g,i*16+15,none⟩ (Y (some ⟨g2,0,none⟩) (H.length+1) cap2)):=by
 have hpi:=List.getElem_mem hi
 have hbk:∀ k,k<W3.heap.size->(∀ ad,l[i].2.aH=some ad->k≠ad.block)->w2.heap[k]?=W3.heap[k]?:=fun k hk hne=>by
  refine(hg.block k (by simp;omega) (fun e=>?_)).trans (Below.heap_alloc _ _ _ hk)
  cases ha:l[i].2.aH with
  | none=>rw[ha] at e;cases e
  | some ad=>rw[ha] at e;injection e with e;exact hne ad ha e
 have hi3:i<(l.set i (⟨false,F,H⟩,(⟨a,c,l[i].2.aH,l[i].2.cH⟩:TkV))).length:=by rw[List.length_set];exact hi
 have he3:(l.set i (⟨false,F,H⟩,(⟨a,c,l[i].2.aH,l[i].2.cH⟩:TkV)))[i]'hi3=(⟨false,F,H⟩,⟨a,c,l[i].2.aH,l[i].2.cH⟩):=List.getElem_set_self ..
 have hz:(W3.alloc o).heap.size=W3.heap.size+1:=by simp
 have T4:=T.setH (w1:=w2) hi3 (H ++ [F.slot]) (some ⟨g2,0,none⟩) cap2 (by simp;omega) (by
  rw[show (H ++ [F.slot]).length=H.length+1 by simp,show encI (H ++ [F.slot])=encI H ++ [O J F.slot] by simp[encI]]
  exact ho) (by rw[he3];exact hbk) (fun x hx=>by
  rw[he3]
  injection hx with hx
  subst hx
  rcases hl with e|e
  ·cases ha:l[i].2.aH with
   | none=>rw[ha] at e;cases e
   | some ad=>rw[ha] at e;injection e with e;exact .inl ⟨ad,rfl,e⟩
  ·injection e with e
   exact .inr (by show W3.heap.size<=g2;omega))
 rw[he3,List.set_set,show (H ++ [F.slot]).length=H.length+1 by simp] at T4
 have hgz:=h.t.glo
 have hw3:w.heap.size<=W3.heap.size:=hf.size
 have hset:∀ k,k≠g->(w2.setCell ⟨g,i*16+15,none⟩ (Y (some ⟨g2,0,none⟩) (H.length+1) cap2)).heap[k]?=w2.heap[k]?:=fun k hk=>Below.heap_setCell _ _ _ _ (by dsimp only;exact hk)
 refine U6 (Z:=Up w (Ac B aS aH aF aL)) (HH.same (by rw[World.size_setCell];have:=hg.size;omega) fun k hk hz'=>?_) T4 (by rw[List.length_set];exact h.len) h.hlo h.hlo2 ?_ ?_
 ·have hne:¬ TB g l k\/w.heap.size<=k:=hz'.imp (h.ap k) id
  rw[hset k (by
   rintro rfl
   rcases hne with h'|h'
   ·exact h' (.inl rfl)
   ·omega)]
  refine hbk k hk (fun ad e=>?_)
  rintro rfl
  rcases hne with h'|h'
  ·exact h' (.inr (.inl ⟨_,hpi,ad,e,rfl⟩))
  ·have:=(h.t.hlo hpi e).2;omega
 ·have hb3:=h.kept hf
  have h1:=h.hlo2
  have hsz:=h.size
  refine⟨hg.os.trans hb3.os,hg.tape.trans hb3.tape,hg.output.trans hb3.output,by rw[World.size_setCell];have:=hg.size;omega,fun k hk hne=>?_⟩
  refine(hset k (by omega)).trans ((hbk k (by omega) (fun ad e h'=>?_)).trans (hb3.block k hk hne))
  have:=(h.t.hlo hpi e).1
  omega
 ·rw[List.map_set,ht,hd,if_pos ⟨rfl,hlk⟩]
  rfl
theorem a4l{w:Wq}{n0 B lo lo2:Nat}{aS aH aF aL:Option Addr}{cS cH cF cL:Nat}{M:Mm}{g cT n i:Nat}{l:List (Tk × TkV)}(h:WM w n0 B lo lo2 aS aH aF aL cS cH cF cL M g cT n l)(hM:Ok M)(hi:i<l.length)(hb:l[i].1.busy=true)(hf:Fit M l[i].1.f)(hsl:∀ a∈l[i].1.held,Dc M a=true)(hl5:l[i].1.held.length<=100) :
  Calls Pg 106 #[.pointer (some ⟨B,0,none⟩),O J (i:Int)] w fun e w'=>e=.returned (O J 0)/\WP n0 B ⟨(stepT M i l[i].1).1,(l.map (·.1)).set i (stepT M i l[i].1).2⟩ w w':=by
 have hpi:=List.getElem_mem hi
 obtain⟨q0,q1,q2,q3,q4,q5,qs⟩:=Bc h.m.box
 have d0:=(h.t.busy hi).1
 rw[hb] at d0
 have hn:(i:Int)<(n:Int):=by rw[<- h.len];omega
 have hn5:n<=5:=by rw[<- h.len];exact h.t.few
 have HS:Hid (Calls Pg 142 #[.pointer (some ⟨B,0,none⟩),.pointer (some ⟨g,i*16,none⟩),O J (i:Int)] w (X6 (Xw (some ⟨g,0,none⟩) n cT) w B lo (Ac B aS aH aF aL) lo2 g cT l i (stepT M i l[i].1).1 (stepT M i l[i].1).2.f (O9 l[i].1))) :=
  a9r M B lo aS aH aF aL cS cH cF cL g cT lo2 i l w h.m hM h.t hi h.ap hsl (fun p hp a ha=>(h.ka p hp a ha).1) hf
 have HFm:=a2g M i l[i].1
 have HHl:Hid ((O9 l[i].1).length<=100):=by
  show _<=_
  unfold O9
  split
  ·exact Nat.le_trans (List.length_erase_le ..) hl5
  ·exact hl5
 obtain⟨N,hN⟩:∃ N,N=(stepT M i l[i].1).1:=⟨_,rfl⟩
 obtain⟨F,hF⟩:∃ F,F=(stepT M i l[i].1).2.f:=⟨_,rfl⟩
 obtain⟨t',ht'⟩:∃ t',t'=(stepT M i l[i].1).2:=⟨_,rfl⟩
 obtain⟨H,hH⟩:∃ H,H=O9 l[i].1:=⟨_,rfl⟩
 rw[<- hN,<- hF,<- hH] at HS
 rw[<- ht',<- hH] at HFm
 rw[<- hH] at HHl
 have hF':t'.f=F:=by rw[ht',hF]
 rw[hF'] at HFm
 rw[<- hN,<- ht']
 have HFm2:Hid (t'=⟨!F.done,F,if F.done=true/\F.c.kind=1/\F.e=0 then H ++ [F.slot] else H⟩):=HFm
 have HW:Hid (WM w n0 B lo lo2 aS aH aF aL cS cH cF cL M g cT n l):=h
 have HBsy:Hid (l[i].1.busy=true):=hb
 clear h hM hf hsl hN hF ht' hH hF' HFm hb
 go_enter Tryz.func106,Tryz.ntmps106
 go_wp2_with fail
 refine HS.out.mono ?_
 rintro e w1 ⟨a,c,rfl,hk1,ha1,hH1,⟨hiq,hT1⟩,hF1⟩
 clear HS d0 q0 q1 q2 q3 q4 q5
 have hgz:=HW.out.t.glo
 have hil:i<(l.set i (⟨l[i].1.busy,l[i].1.f,H⟩,l[i].2)).length:=by rw[List.length_set];exact hi
 have hel:(l.set i (⟨l[i].1.busy,l[i].1.f,H⟩,l[i].2))[i]'hil=(⟨l[i].1.busy,l[i].1.f,H⟩,l[i].2):=List.getElem_set_self ..
 have hmh:∀ q∈l.set i (⟨l[i].1.busy,l[i].1.f,H⟩,l[i].2),∃ q'∈l,q.2.aH=q'.2.aH:=fun q hq=>by
  rcases Ja hi hq with rfl|h
  ·exact⟨_,hpi,rfl⟩
  ·exact⟨q,h,rfl⟩
 have HT2:Hid (Bo (w1.setCells g (i*16+1) (F.enc a c)) lo2 g cT (l.set i (⟨l[i].1.busy,F,H⟩,⟨a,c,l[i].2.aH,l[i].2.cH⟩))):=by
  have h2:=hT1.a2c hil F a c hk1 (fun ad e=>by
   rcases ha1 ad e with ⟨_,h⟩|h
   ·exact HW.out.t.klo _ hpi ad h
   ·omega) (fun _ ad e=>by
   rcases ha1 ad e with ⟨_,h⟩|h
   ·exact(HW.out.ka _ hpi ad h).2.1
   ·omega) (fun _ q hq x b hx hb=>by
   obtain⟨q',hq',e'⟩:=hmh q hq
   rw[e'] at hb
   rcases ha1 x hx with ⟨_,h⟩|h
   ·exact(HW.out.ka _ hpi x h).2.2 q' hq' b hb
   ·have:=(HW.out.t.hlo hq' hb).2;omega)
  rw[hel,List.set_set] at h2
  exact h2
 have thF:Hid (w1.there g (i*16+1) 14):=hT1.there hil (by decide)
 have HH2:Hid (Has (Xw (some ⟨g,0,none⟩) n cT) (w1.setCells g (i*16+1) (F.enc a c)) B lo (Up w (Ac B aS aH aF aL)) N):=hH1.same (by rw[setCells_size];exact Nat.le_refl _) fun k _ hk=>Ad (by
  rintro rfl
  rcases hk with h|h
  ·exact HW.out.ap _ h (.inl rfl)
  ·omega) _ _ _
 have HF2:Hid (Fine w (w1.setCells g (i*16+1) (F.enc a c)) (fun k=>Ac B aS aH aF aL k\/TB g l k)):=Gw hF1 (.inl (.inr (.inl rfl)))
 clear hel hmh hT1 hk1 ha1 hH1 hF1
 have hi2:i<(l.set i (⟨l[i].1.busy,F,H⟩,⟨a,c,l[i].2.aH,l[i].2.cH⟩)).length:=by rw[List.length_set];exact hi
 have HE2:Hid ((l.set i (⟨l[i].1.busy,F,H⟩,⟨a,c,l[i].2.aH,l[i].2.cH⟩))[i]'hi2=(⟨l[i].1.busy,F,H⟩,⟨a,c,l[i].2.aH,l[i].2.cH⟩)):=List.getElem_set_self ..
 have d13:(w1.setCells g (i*16+1) (F.enc a c)).cell? ⟨g,i*16+13,none⟩=some (.bool F.done):=by rw[HT2.out.cell (q:=13) hi2 (by decide),HE2.out];rfl
 have HNil:Hid (∀ b:Bool,F.done=b->(l.set i (⟨l[i].1.busy,F,H⟩,(⟨a,c,l[i].2.aH,l[i].2.cH⟩:TkV))).map (·.1)=(l.map (·.1)).set i ⟨l[i].1.busy,F,H⟩):=fun _ _=>by rw[List.map_set]
 have HBz:Hid (l[i].1.busy=true):=HBsy.out
 rcases (Bool.eq_false_or_eq_true F.done).symm with hdone|hdone
 ·have HD:Hid (F.done=false):=hdone
  rw[hdone] at d13
  clear hdone
  have HR:Hid (WP n0 B ⟨N,(l.map (·.1)).set i t'⟩ w (w1.setCells g (i*16+1) (F.enc a c))):=by
   refine U6 HH2.out HT2.out (by rw[List.length_set];exact HW.out.len) HW.out.hlo HW.out.hlo2 (HW.out.kept HF2.out) ?_
   rw[HNil.out _ rfl,HFm2.out,HBz.out,HD.out]
   rfl
  clear HH2 HT2 HF2
  go_wp2_with (refine Bd (f:=F) rfl _ _ rfl rfl rfl thF.out ?_;generalize w1.setCells g (i*16+1) (F.enc a c)=W2 at *)
  go_ret
  exact⟨rfl,HR.out⟩
 ·have HD:Hid (F.done=true):=hdone
  rw[hdone] at d13
  clear hdone
  obtain⟨W2,hW2⟩:∃ W2,W2=w1.setCells g (i*16+1) (F.enc a c):=⟨_,rfl⟩
  rw[<- hW2] at HT2 HH2 HF2 d13
  have b2:=HT2.out.busy hi2
  rw[HE2.out] at b2
  have HT3:Hid (Bo (W2.setCell ⟨g,i*16,none⟩ (.bool false)) lo2 g cT (l.set i (⟨false,F,H⟩,⟨a,c,l[i].2.aH,l[i].2.cH⟩))):=by
   have h:=HT2.out.setB hi2 false
   rw[HE2.out,List.set_set] at h
   exact h
  have HH3:Hid (Has (Xw (some ⟨g,0,none⟩) n cT) (W2.setCell ⟨g,i*16,none⟩ (.bool false)) B lo (Up w (Ac B aS aH aF aL)) N):=HH2.out.same (by rw[World.size_setCell];exact Nat.le_refl _) fun k _ hk=>Below.heap_setCell _ _ _ _ (by
   dsimp only
   rintro rfl
   rcases hk with h|h
   ·exact HW.out.ap _ h (.inl rfl)
   ·omega)
  have HF3:Hid (Fine w (W2.setCell ⟨g,i*16,none⟩ (.bool false)) (fun k=>Ac B aS aH aF aL k\/TB g l k)):=HF2.out.set (.inl (.inr (.inl rfl))) _ _
  clear HT2 HH2 HF2
  have hi3:i<(l.set i (⟨false,F,H⟩,(⟨a,c,l[i].2.aH,l[i].2.cH⟩:TkV))).length:=by rw[List.length_set];exact hi
  have HE3:Hid ((l.set i (⟨false,F,H⟩,(⟨a,c,l[i].2.aH,l[i].2.cH⟩:TkV)))[i]'hi3=(⟨false,F,H⟩,⟨a,c,l[i].2.aH,l[i].2.cH⟩)):=List.getElem_set_self ..
  have k1:(W2.setCell ⟨g,i*16,none⟩ (.bool false)).cell? ⟨g,i*16+1,none⟩=some (O J F.c.kind):=by rw[HT3.out.cell (q:=1) hi3 (by decide),HE3.out];rfl
  have k14:(W2.setCell ⟨g,i*16,none⟩ (.bool false)).cell? ⟨g,i*16+14,none⟩=some (O J F.e):=by rw[HT3.out.cell (q:=14) hi3 (by decide),HE3.out];rfl
  have k10:(W2.setCell ⟨g,i*16,none⟩ (.bool false)).cell? ⟨g,i*16+10,none⟩=some (O J F.slot):=by rw[HT3.out.cell (q:=10) hi3 (by decide),HE3.out];rfl
  have k15:(W2.setCell ⟨g,i*16,none⟩ (.bool false)).cell? ⟨g,i*16+15,none⟩=some (Y l[i].2.aH H.length l[i].2.cH):=by rw[HT3.out.cell (q:=15) hi3 (by decide),HE3.out];rfl
  have f15:(W2.setCell ⟨g,i*16,none⟩ (.bool false)).frozen? ⟨g,i*16+15,none⟩=false:=HT3.out.row.frozenAt _
  obtain⟨b2a,b2b⟩:=b2
  by_cases hlk:F.c.kind=1/\F.e=0
  rotate_left
  ·have HR:Hid (WP n0 B ⟨N,(l.map (·.1)).set i t'⟩ w (W2.setCell ⟨g,i*16,none⟩ (.bool false))):=by
    refine U6 HH3.out HT3.out (by rw[List.length_set];exact HW.out.len) HW.out.hlo HW.out.hlo2 (HW.out.kept HF3.out) ?_
    rw[List.map_set,HFm2.out,HD.out,if_neg (fun h=>hlk h.2)]
    rfl
   subst hW2
   clear HH3 HT3 HF3 HE3 HE2
   by_cases hk1:F.c.kind=1
   ·have he':(F.e==0)=false:=by simpa using fun h=>hlk ⟨hk1,h⟩
    have hk':(F.c.kind==1)=true:=by simpa using hk1
    clear hk1 hlk
    dsimp only
    iterate 7 (first|go_values|go_skip|go_guarded|go_step|go_upon)
    refine Bd (f:=F) rfl _ _ rfl rfl rfl thF.out ?_
    generalize w1.setCells g (i*16+1) (F.enc a c)=W2 at *
    go_wp2
    go_ret
    exact⟨rfl,HR.out⟩
   ·have hk':(F.c.kind==1)=false:=by simpa using hk1
    clear hk1 hlk
    dsimp only
    iterate 7 (first|go_values|go_skip|go_guarded|go_step|go_upon)
    refine Bd (f:=F) rfl _ _ rfl rfl rfl thF.out ?_
    generalize w1.setCells g (i*16+1) (F.enc a c)=W2 at *
    go_wp2
    go_ret
    exact⟨rfl,HR.out⟩
  ·obtain⟨i0,hi0,hz0,hz1,hz2⟩:=info_parts iI
   have he':(F.e==0)=true:=by simpa using hlk.2
   have hk':(F.c.kind==1)=true:=by simpa using hlk.1
   have HLk:Hid (F.c.kind=1/\F.e=0):=hlk
   have hln:=HHl.out
   have hown:(W2.setCell ⟨g,i*16,none⟩ (.bool false)).ownsRow lo2 3 1 (Y l[i].2.aH H.length l[i].2.cH) H.length (encI H):=by
    have h:=HT3.out.held _ (List.getElem_mem hi3)
    rw[HE3.out] at h
    exact h
   obtain⟨W3,hW3⟩:∃ W3,W3=W2.setCell ⟨g,i*16,none⟩ (.bool false):=⟨_,rfl⟩
   rw[<- hW3] at HT3 HH3 HF3 k1 k14 k10 k15 f15 hown
   have HOX:Hid (((W3.alloc (.cells #[O J F.slot] 3)).drew).ownsRow lo2 3 1 (Y l[i].2.aH H.length l[i].2.cH) H.length (encI H)):=(hown.alloc _).drew
   have HCX:Hid (∀ q y,[Value.int .i64 F.slot][q]?=some y->((W3.alloc (.cells #[O J F.slot] 3)).drew).cell? ((⟨W3.heap.size,0,none⟩:Addr).add q)=some y):=fun q y h=>cell_one_new W3 _ _ q y h
   have hgz3:lo2<=W3.heap.size:=Nat.le_trans HT3.out.glo.1 (Nat.le_of_lt HT3.out.glo.2)
   subst hW2
   clear HE2 hlk
   dsimp only
   iterate 7 (first|go_values|go_skip|go_guarded|go_step|go_upon)
   refine Bd (f:=F) rfl _ _ rfl rfl rfl thF.out ?_
   generalize w1.setCells g (i*16+1) (F.enc a c)=W2 at *
   subst hW3
   go_wp2_with fail
   generalize W2.setCell ⟨g,i*16,none⟩ (.bool false)=W3 at *
   clear d13 b2a b2b k1 k14
   have HBk:Hid (∀ w2:Wq,(W3.alloc (.cells #[O J F.slot] 3)).grownBy w2 (Value.slice l[i].2.aH H.length l[i].2.cH).ownBlock->∀ k,k<W3.heap.size->(∀ ad,l[i].2.aH=some ad->k≠ad.block)->w2.heap[k]?=W3.heap[k]?):=fun w2 hg k hk hne=>by
    refine(hg.block k (by simp;omega) (fun e=>?_)).trans (Below.heap_alloc _ _ _ hk)
    cases ha:l[i].2.aH with
    | none=>rw[ha] at e;cases e
    | some ad=>rw[ha] at e;injection e with e;exact hne ad ha e
   have HBg:Hid (∀ w2:Wq,(W3.alloc (.cells #[O J F.slot] 3)).grownBy w2 (Value.slice l[i].2.aH H.length l[i].2.cH).ownBlock->w2.cell? ⟨g,i*16+15,none⟩=some (Y l[i].2.aH H.length l[i].2.cH)/\w2.frozen? ⟨g,i*16+15,none⟩=false):=fun w2 hg=>by
    have h:=HBk.out w2 hg g HT3.out.glo.2 (fun ad e h=>HW.out.t.hg hpi e h.symm)
    exact⟨(World.cell?_of_block (a:=⟨g,i*16+15,none⟩) h).trans k15,(World.frozen?_of_block (a:=⟨g,i*16+15,none⟩) h).trans f15⟩
   have hg3:g<W3.heap.size:=HT3.out.glo.2
   go_region_law (refine Dt _ rfl (.tmp 54) (.tmp 60) 23 rfl lo2 3 i0 (O J 0) 1 8 Tryz.underlying23 hi0 hz0 hz1 hz2 rfl (by decide) (Y l[i].2.aH H.length l[i].2.cH) _ _ rfl HOX.out ⟨W3.heap.size,0,none⟩ 1 1 [O J F.slot] rfl rfl HCX.out (by intro x hx;simp at hx;subst hx;rfl) (by unfold maxLen;omega) (by omega) (by simp[World.drew];omega) ?_;intro v2 w2 ho2 hg2 _ hloc2;obtain⟨g2,cap2,rfl⟩:=ownsRow_form ho2 (by omega);have HO5:Hid (w2.ownsRow lo2 3 1 (Y (some ⟨g2,0,none⟩) (H.length+1) cap2) (H.length+1) (encI H ++ [O J F.slot])):=ho2;have HG5:Hid ((W3.alloc (.cells #[O J F.slot] 3)).grownBy w2 (Value.slice l[i].2.aH H.length l[i].2.cH).ownBlock):=⟨hg2.1,hg2.2,hg2.3,hg2.4,hg2.5⟩;have HL5:Hid ((some g2:Option Nat)=(Value.slice l[i].2.aH H.length l[i].2.cH).ownBlock\/some g2=some (W3.alloc (.cells #[O J F.slot] 3)).heap.size):=hloc2;have e15:=(HBg.out w2 HG5.out).1;have g15:=(HBg.out w2 HG5.out).2;clear ho2 hg2 hloc2)
   all_goals
    have HR:Hid (WP n0 B ⟨N,(l.map (·.1)).set i t'⟩ w (w2.setCell ⟨g,i*16+15,none⟩ (Y (some ⟨g2,0,none⟩) (H.length+1) cap2))):=a7p HW.out hi HT3.out HH3.out HF3.out HFm2.out HD.out HLk.out HO5.out HG5.out HL5.out hln
    clear HOX HCX HBk HBg HT3 HH3 HF3 HE3 HFm2 HW
    go_wp2
    go_ret
    exact⟨rfl,HR.out⟩
end
section
open Go.Maps
def X5(n0 B:Nat)(E:Int)(W':Wd)(w:Wq)(e:Ending)(w':Wq):Prop :=
 e=.returned (O J E)/\((E≠0/\Below n0 w w')\/(E=0/\WP n0 B W' w w'))
theorem P6{w:Wq}{B:Nat}{v0 v1 v2 v3 v4 v5 v6 v7 v8:Value}{t:TypeId}(h:w.heap[B]?=some (.cells #[v0,v1,v2,v3,v4,v5,v6,v7,v8] t (0,0))) :
  w.cell? ⟨B,0,none⟩=some v0/\w.cell? ⟨B,1,none⟩=some v1/\w.cell? ⟨B,2,none⟩=some v2/\w.cell? ⟨B,3,none⟩=some v3/\w.cell? ⟨B,4,none⟩=some v4/\w.cell? ⟨B,5,none⟩=some v5 /\
  w.cell? ⟨B,6,none⟩=some v6/\w.cell? ⟨B,7,none⟩=some v7/\w.cell? ⟨B,8,none⟩=some v8/\B<w.heap.size :=
 ⟨by rw[cell_of_block h];rfl,by rw[cell_of_block h];rfl,by rw[cell_of_block h];rfl,by rw[cell_of_block h];rfl,by rw[cell_of_block h];rfl,by rw[cell_of_block h];rfl,by rw[cell_of_block h];rfl,by rw[cell_of_block h];rfl,by rw[cell_of_block h];rfl,lt_of_block h⟩
theorem WM.below{w w':Wq}{n0 B lo lo2:Nat}{aS aH aF aL:Option Addr}{cS cH cF cL:Nat}{M:Mm}{g cT n:Nat}{l:List (Tk × TkV)}(h:WM w n0 B lo lo2 aS aH aF aL cS cH cF cL M g cT n l)(hb:Below w.heap.size w w'):WM w' n0 B lo lo2 aS aH aF aL cS cH cF cL M g cT n l :=
 ⟨h.m.below hb,h.t.below hb,h.len,h.ap,fun p hp a ha=>⟨Nat.lt_of_lt_of_le (h.ka p hp a ha).1 hb.size,(h.ka p hp a ha).2⟩,h.hlo,h.hlo2⟩
theorem WP.pre{n0 B:Nat}{W':Wd}{w0 w w':Wq}(h:WP n0 B W' w w')(hb:Below n0 w0 w):WP n0 B W' w0 w':=by
 obtain⟨aS,aH,aF,aL,cS,cH,cF,cL,aT,cT,l,h1,h2,h3,h4,h5,h6,h7⟩:=h
 exact⟨aS,aH,aF,aL,cS,cH,cF,cL,aT,cT,l,h1,h2,h3,h4,h5,h6,(Kept.of_below hb (Nat.le_refl _)).trans h7⟩
section
variable {w:Wq} {n0 B lo lo2:Nat} {aS aH aF aL:Option Addr} {cS cH cF cL:Nat} {M:Mm} {g cT n:Nat} {l:List (Tk × TkV)}
theorem a5r(h:WM w n0 B lo lo2 aS aH aF aL cS cH cF cL M g cT n l)(hM:Ok M)(x:Pk)(ht:x.tick=true) :
  Calls Pg 58 #[.pointer (some ⟨B,0,none⟩),.agg #[O J x.task,.bool x.step,.bool x.tick,O J x.c.kind,O J x.c.a,O J x.c.b,O J x.c.time,O J x.c.bk,O J x.c.slot]] w (X5 n0 B (if M.now=1000000 then 7 else 0) ⟨{ M with now:=M.now+1 },l.map (·.1)⟩ w):=by
 obtain⟨ox,hox⟩:∃ o:Obj,o=.cells #[O J x.task,.bool x.step,.bool x.tick,O J x.c.kind,O J x.c.a,O J x.c.b,O J x.c.time,O J x.c.bk,O J x.c.slot] 34:=⟨_,rfl⟩
 have b0:Below w.heap.size w (w.alloc ox):=A7 w ox
 have HX0:Hid ((w.alloc ox).heap[w.heap.size]?=some ox):=heap_alloc_new w ox
 have HW0:Hid (WM (w.alloc ox) n0 B lo lo2 aS aH aF aL cS cH cF cL M g cT n l):=h.below b0
 have hsz:=h.size
 have hB:=lt_of_block h.m.box
 clear h
 obtain⟨tk,st,ti,cc⟩:=x
 dsimp only at ht
 subst ht
 by_cases hn:M.now=1000000
 ·rw[if_pos hn]
  go_enter Tryz.func58,Tryz.ntmps58
  go_wp2_with fail
  rw[<- hox]
  generalize w.alloc ox=W0 at *
  refine(a6h HW0.out.m hn).mono ?_
  rintro e w1 ⟨rfl,rfl⟩
  clear hox HX0 HW0
  go_wp2
  go_ret
  exact⟨rfl,.inl ⟨by decide,b0.mono hsz⟩⟩
 ·rw[if_neg hn]
  go_enter Tryz.func58,Tryz.ntmps58
  go_wp2_with fail
  rw[<- hox]
  generalize w.alloc ox=W0 at *
  refine(b2l HW0.out.m hn hM.now).mono ?_
  rintro e w1 ⟨rfl,rfl⟩
  have HR:Hid (WP n0 B ⟨{ M with now:=M.now+1 },l.map (·.1)⟩ w (W0.setCell ⟨B,4,none⟩ (O J (M.now+1)))):=by
   have hw:=HW0.out
   refine U6 (Z:=fun _=>True) ⟨aS,aH,aF,aL,cS,cH,cF,cL,hw.m.a9n (M.now+1),fun _ _=>trivial⟩ (hw.t.same fun k _ hk=>Below.heap_setCell _ _ _ _ (by dsimp only;exact fun e=>hw.ap B (.inl rfl) (e ▸ hk))) hw.len hw.hlo hw.hlo2 ((Kept.of_below (b0.mono hsz) (Nat.le_refl _)).Yd _) rfl
  clear hox HX0 HW0
  generalize W0.setCell ⟨B,4,none⟩ (O J (M.now+1))=W1 at *
  go_wp2
  go_ret
  exact⟨rfl,.inr ⟨rfl,HR.out⟩⟩
theorem a5p(h:WM w n0 B lo lo2 aS aH aF aL cS cH cF cL M g cT n l)(x:Pk)(ht:x.tick=false)(hx:¬ (0<=x.task/\x.task<n))(W':Wd) :
  Calls Pg 58 #[.pointer (some ⟨B,0,none⟩),.agg #[O J x.task,.bool x.step,.bool x.tick,O J x.c.kind,O J x.c.a,O J x.c.b,O J x.c.time,O J x.c.bk,O J x.c.slot]] w (X5 n0 B 5 W' w):=by
 obtain⟨ox,hox⟩:∃ o:Obj,o=.cells #[O J x.task,.bool x.step,.bool x.tick,O J x.c.kind,O J x.c.a,O J x.c.b,O J x.c.time,O J x.c.bk,O J x.c.slot] 34:=⟨_,rfl⟩
 have b0:Below w.heap.size w (w.alloc ox):=A7 w ox
 have hsz:=h.size
 obtain⟨q0,q1,q2,q3,q4,q5,qs⟩:=Bc h.m.box
 have hn5:n<=5:=by rw[<- h.len];exact h.t.few
 have hn1:1<=n\/n=0:=by omega
 clear h
 obtain⟨tk,st,ti,cc⟩:=x
 dsimp only at ht hx
 subst ht
 have HIn:Hid (∀ W:Wq,Calls Pg 85 #[O J tk,O J 0,O J ((n:Int) - 1)] W fun e w'=>e=.returned (.bool false)/\w'=W):=fun W=>by
  refine(Bq tk 0 ((n:Int) - 1) W).mono ?_
  rintro e w' ⟨rfl,rfl⟩
  have:inB tk 0 ((n:Int) - 1)=false:=by
   cases hb:inB tk 0 ((n:Int) - 1)
   ·rfl
   ·rw[Aj] at hb;omega
  exact⟨by rw[this],rfl⟩
 have hwr:IntKind.i64.wrap ((n:Int) - 1)=(n:Int) - 1:=by rw[IntKind.wrap_i64];omega
 clear hx
 go_enter Tryz.func58,Tryz.ntmps58
 go_wp2_with fail
 go_quiet (first|(go_at_call 85;exact Calls.quiet_of_same (HIn.out _)))
 go_wp2
 go_ret
 exact⟨rfl,.inl ⟨by decide,below_drewN (by rw[<- hox];exact b0.mono hsz) nq⟩⟩
theorem a5q(h:WM w n0 B lo lo2 aS aH aF aL cS cH cF cL M g cT n l)(hM:Ok M)(i:Nat)(hi:i<l.length)(c:Cl)(hsl:∀ a∈l[i].1.held,Dc M a=true)(hl5:l[i].1.held.length<=100)(hf:l[i].1.busy=true->Fit M l[i].1.f) :
  Calls Pg 58 #[.pointer (some ⟨B,0,none⟩),.agg #[O J (i:Int),.bool true,.bool false,O J c.kind,O J c.a,O J c.b,O J c.time,O J c.bk,O J c.slot]] w (X5 n0 B (if l[i].1.busy then 0 else 8) ⟨(stepT M i l[i].1).1,(l.map (·.1)).set i (stepT M i l[i].1).2⟩ w):=by
 obtain⟨ox,hox⟩:∃ o:Obj,o=.cells #[O J (i:Int),.bool true,.bool false,O J c.kind,O J c.a,O J c.b,O J c.time,O J c.bk,O J c.slot] 34:=⟨_,rfl⟩
 have b0:Below w.heap.size w (w.alloc ox):=A7 w ox
 have hsz:=h.size
 obtain⟨q0,q1,q2,q3,q4,q5,qs⟩:=Bc h.m.box
 have hn5:n<=5:=by rw[<- h.len];exact h.t.few
 have hin:i<n:=by rw[<- h.len];exact hi
 have HW0:Hid (∀ k,WM ((w.alloc ox).drewN k) n0 B lo lo2 aS aH aF aL cS cH cF cL M g cT n l):=fun k=>h.below (below_drewN b0 k)
 have HX0:Hid (∀ k,((w.alloc ox).drewN k).cell? ⟨w.heap.size,0,none⟩=some (O J (i:Int))/\((w.alloc ox).drewN k).cell? ⟨w.heap.size,1,none⟩=some (.bool true)):=fun k=>by
  have:=heap_alloc_new w ox
  rw[hox] at this ⊢
  exact⟨(cell_of_block this _).trans rfl,(cell_of_block this _).trans rfl⟩
 clear h
 have HIn:Hid (∀ W:Wq,Calls Pg 85 #[O J (i:Int),O J 0,O J ((n:Int) - 1)] W fun e w'=>e=.returned (.bool true)/\w'=W):=fun W=>by
  refine(Bq (i:Int) 0 ((n:Int) - 1) W).mono ?_
  rintro e w' ⟨rfl,rfl⟩
  have:inB (i:Int) 0 ((n:Int) - 1)=true:=by rw[Aj];omega
  exact⟨by rw[this],rfl⟩
 have hwr:IntKind.i64.wrap ((n:Int) - 1)=(n:Int) - 1:=by rw[IntKind.wrap_i64];omega
 rcases (Bool.eq_false_or_eq_true l[i].1.busy).symm with hb|hb
 ·rw[hb,if_neg (by simp)]
  have HG:Hid (∀ W:Wq,WM W n0 B lo lo2 aS aH aF aL cS cH cF cL M g cT n l->Calls Pg 106 #[.pointer (some ⟨B,0,none⟩),O J (i:Int)] W fun e w'=>e=.returned (O J 8)/\w'=W):=fun W hW=>a4m hW hi hb
  clear hb hf hsl
  go_enter Tryz.func58,Tryz.ntmps58
  go_wp2_with fail
  go_quiet (first|(go_at_call 85;exact Calls.quiet_of_same (HIn.out _)))
  rw[<- hox]
  have HW1:=HW0.out nq
  obtain⟨x0,x1⟩:=HX0.out nq
  have b1:Below n0 w ((w.alloc ox).drewN nq):=below_drewN (b0.mono hsz) nq
  clear HW0 HX0 q0 q1 q2 q3 q4 q5
  generalize (w.alloc ox).drewN nq=W1 at *
  have HW2:Hid (WM W1 n0 B lo lo2 aS aH aF aL cS cH cF cL M g cT n l):=HW1
  clear HW1 hox
  go_wp2_with fail
  refine(HG.out W1 HW2.out).mono ?_
  rintro e w2 ⟨rfl,rfl⟩
  clear x0 x1
  go_wp2
  go_ret
  exact⟨rfl,.inl ⟨by decide,b1⟩⟩
 ·have HG:Hid (∀ W:Wq,WM W n0 B lo lo2 aS aH aF aL cS cH cF cL M g cT n l->Calls Pg 106 #[.pointer (some ⟨B,0,none⟩),O J (i:Int)] W fun e w'=>e=.returned (O J 0)/\WP n0 B ⟨(stepT M i l[i].1).1,(l.map (·.1)).set i (stepT M i l[i].1).2⟩ W w'):=fun W hW=>a4l hW hM hi hb (hf hb) hsl hl5
  obtain⟨W',hW'⟩:∃ W':Wd,W'=⟨(stepT M i l[i].1).1,(l.map (·.1)).set i (stepT M i l[i].1).2⟩:=⟨_,rfl⟩
  rw[hb,if_pos rfl,<- hW']
  rw[<- hW'] at HG
  clear hb hf hsl hW'
  go_enter Tryz.func58,Tryz.ntmps58
  go_wp2_with fail
  go_quiet (first|(go_at_call 85;exact Calls.quiet_of_same (HIn.out _)))
  rw[<- hox]
  have HW1:=HW0.out nq
  obtain⟨x0,x1⟩:=HX0.out nq
  have b1:Below n0 w ((w.alloc ox).drewN nq):=below_drewN (b0.mono hsz) nq
  clear HW0 HX0 q0 q1 q2 q3 q4 q5
  generalize (w.alloc ox).drewN nq=W1 at *
  have HW2:Hid (WM W1 n0 B lo lo2 aS aH aF aL cS cH cF cL M g cT n l):=HW1
  clear HW1 hox
  go_wp2_with fail
  refine(HG.out W1 HW2.out).mono ?_
  rintro e w2 ⟨rfl,hwp⟩
  have HR:Hid (WP n0 B W' w w2):=hwp.pre b1
  clear x0 x1 hwp
  go_wp2
  go_ret
  exact⟨rfl,.inr ⟨rfl,HR.out⟩⟩
theorem a1j(h:WM w n0 B lo lo2 aS aH aF aL cS cH cF cL M g cT n l)(hM:Ok M)(i:Nat)(hi:i<l.length)(c:Cl) :
  Calls Pg 58 #[.pointer (some ⟨B,0,none⟩),.agg #[O J (i:Int),.bool false,.bool false,O J c.kind,O J c.a,O J c.b,O J c.time,O J c.bk,O J c.slot]] w (X5 n0 B (Yl M l[i].1 c) ⟨M,(l.map (·.1)).set i ⟨true,Cm c,l[i].1.held⟩⟩ w):=by
 obtain⟨ox,hox⟩:∃ o:Obj,o=.cells #[O J (i:Int),.bool false,.bool false,O J c.kind,O J c.a,O J c.b,O J c.time,O J c.bk,O J c.slot] 34:=⟨_,rfl⟩
 have b0:Below w.heap.size w (w.alloc ox):=A7 w ox
 have hsz:=h.size
 have hns:=hM.ns
 have hgz:=h.t.glo.2
 have hnh:=hM.nh
 obtain⟨q0,q1,q2,q3,q4,q5,qs⟩:=Bc h.m.box
 have hn5:n<=5:=by rw[<- h.len];exact h.t.few
 have hin:i<n:=by rw[<- h.len];exact hi
 have HW0:Hid (∀ k,WM ((w.alloc ox).drewN k) n0 B lo lo2 aS aH aF aL cS cH cF cL M g cT n l):=fun k=>h.below (below_drewN b0 k)
 have HX0:Hid (∀ k,((w.alloc ox).drewN k).heap[w.heap.size]?=some ox):=fun k=>heap_alloc_new w ox
 obtain⟨E,hE⟩:∃ E,E=Yl M l[i].1 c:=⟨_,rfl⟩
 obtain⟨W',hW'⟩:∃ W':Wd,W'=⟨M,(l.map (·.1)).set i ⟨true,Cm c,l[i].1.held⟩⟩:=⟨_,rfl⟩
 rw[<- hE,<- hW']
 have HBg:Hid (∀ W:Wq,WM W n0 B lo lo2 aS aH aF aL cS cH cF cL M g cT n l->Below n0 w W->Calls Pg 107 #[.agg #[Y aS M.slots.length cS,Y aH M.heads.length cH,Y aF M.free.length cF,Y aL M.locks.length cL,O J M.now],.pointer (some ⟨g,i*16,none⟩),.agg #[O J c.kind,O J c.a,O J c.b,O J c.time,O J c.bk,O J c.slot]] W fun e w'=>e=.returned (O J E)/\((E≠0/\Below n0 w w')\/(E=0/\WP n0 B W' w w'))/\Fine W w' (fun k=>k=g)):=fun W hW hbW=>by
  have hwm:=hW
  refine(a3v M c aS aH aF aL cS cH cF cL g cT lo2 i l W hW.t hi (by omega) (by omega)).mono ?_
  rintro e w' ⟨rfl,hh⟩
  rw[<- hE] at hh ⊢
  refine⟨rfl,hh.imp (fun ⟨h1,h2⟩=>⟨h1,hbW.trans (h2.mono hW.size)⟩) (fun ⟨h1,⟨hi',hT⟩,hF⟩=>⟨h1,?_⟩),hh.elim (fun ⟨_,h2⟩=>.of_below _ h2) (fun ⟨_,_,hF⟩=>hF)⟩
  rw[hW']
  refine U6 (Z:=Ac B aS aH aF aL) ⟨aS,aH,aF,aL,cS,cH,cF,cL,hW.m.same hF.size (fun k hk hfo=>hF.block k hk (fun e=>hW.ap k hfo (by rw[e];exact .inl rfl))),fun _ h=>h⟩ hT (by rw[List.length_set];exact hW.len) hW.hlo hW.hlo2 ((Kept.of_below hbW (Nat.le_refl _)).trans ⟨hF.os,hF.tape,hF.output,hF.size,fun k hk hne=>hF.block k (by have:=hW.size;omega) (fun e=>by have:=hW.t.glo.1;have:=hW.hlo2;omega)⟩) ?_
  rw[List.map_set]
 clear h hM hE hW'
 have HIn:Hid (∀ W:Wq,Calls Pg 85 #[O J (i:Int),O J 0,O J ((n:Int) - 1)] W fun e w'=>e=.returned (.bool true)/\w'=W):=fun W=>by
  refine(Bq (i:Int) 0 ((n:Int) - 1) W).mono ?_
  rintro e w' ⟨rfl,rfl⟩
  have:inB (i:Int) 0 ((n:Int) - 1)=true:=by rw[Aj];omega
  exact⟨by rw[this],rfl⟩
 have hwr:IntKind.i64.wrap ((n:Int) - 1)=(n:Int) - 1:=by rw[IntKind.wrap_i64];omega
 go_enter Tryz.func58,Tryz.ntmps58
 go_wp2_with fail
 go_quiet (first|(go_at_call 85;exact Calls.quiet_of_same (HIn.out _)))
 rw[<- hox]
 have HW1:=HW0.out nq
 have HX1:=HX0.out nq
 have b1:Below n0 w ((w.alloc ox).drewN nq):=below_drewN (b0.mono hsz) nq
 clear HW0 HX0 q0 q1 q2 q3 q4 q5 HIn
 generalize (w.alloc ox).drewN nq=W1 at *
 have HW2:Hid (WM W1 n0 B lo lo2 aS aH aF aL cS cH cF cL M g cT n l):=HW1
 subst hox
 obtain⟨x0,x1,x2,x3,x4,x5,x6,x7,x8,xs⟩:=P6 HX1
 obtain⟨q0,q1,q2,q3,q4,q5,qs1⟩:=Bc HW1.m.box
 have hi1:(i:Int)<(n:Int):=by omega
 have Hb1:Hid (Below n0 w W1):=b1
 clear HW1 HX1 b1
 have hgB:B≠g:=fun e=>HW2.out.ap B (.inl rfl) (.inl e)
 have hgX:w.heap.size≠g:=by have:=hgz;omega
 have HS:Hid (∀ w':Wq,Fine W1 w' (fun k=>k=g)->w'.cell? ⟨B,0,none⟩=some (Y aS M.slots.length cS)/\w'.cell? ⟨B,1,none⟩=some (Y aH M.heads.length cH)/\w'.cell? ⟨B,2,none⟩=some (Y aF M.free.length cF)/\w'.cell? ⟨B,3,none⟩=some (Y aL M.locks.length cL)/\w'.cell? ⟨B,4,none⟩=some (O J M.now)/\w'.cell? ⟨B,5,none⟩=some (Y (some ⟨g,0,none⟩) n cT)/\w'.cell? ⟨w.heap.size,0,none⟩=some (O J (i:Int))/\w'.cell? ⟨w.heap.size,3,none⟩=some (O J c.kind)/\w'.cell? ⟨w.heap.size,4,none⟩=some (O J c.a)/\w'.cell? ⟨w.heap.size,5,none⟩=some (O J c.b)/\w'.cell? ⟨w.heap.size,6,none⟩=some (O J c.time)/\w'.cell? ⟨w.heap.size,7,none⟩=some (O J c.bk)/\w'.cell? ⟨w.heap.size,8,none⟩=some (O J c.slot)):=fun w' hb=>⟨(World.cell?_of_block (hb.block B qs1 hgB)).trans q0,(World.cell?_of_block (hb.block B qs1 hgB)).trans q1,(World.cell?_of_block (hb.block B qs1 hgB)).trans q2,(World.cell?_of_block (hb.block B qs1 hgB)).trans q3,(World.cell?_of_block (hb.block B qs1 hgB)).trans q4,(World.cell?_of_block (hb.block B qs1 hgB)).trans q5,(World.cell?_of_block (hb.block w.heap.size xs hgX)).trans x0,(World.cell?_of_block (hb.block w.heap.size xs hgX)).trans x3,(World.cell?_of_block (hb.block w.heap.size xs hgX)).trans x4,(World.cell?_of_block (hb.block w.heap.size xs hgX)).trans x5,(World.cell?_of_block (hb.block w.heap.size xs hgX)).trans x6,(World.cell?_of_block (hb.block w.heap.size xs hgX)).trans x7,(World.cell?_of_block (hb.block w.heap.size xs hgX)).trans x8⟩
 go_wp2_with fail
 go_region_held3 (fun w'=>w'.cell? ⟨B,0,none⟩=some (Y aS M.slots.length cS)/\w'.cell? ⟨B,1,none⟩=some (Y aH M.heads.length cH)/\w'.cell? ⟨B,2,none⟩=some (Y aF M.free.length cF)/\w'.cell? ⟨B,3,none⟩=some (Y aL M.locks.length cL)/\w'.cell? ⟨B,4,none⟩=some (O J M.now)/\w'.cell? ⟨B,5,none⟩=some (Y (some ⟨g,0,none⟩) n cT)/\w'.cell? ⟨w.heap.size,0,none⟩=some (O J (i:Int))/\w'.cell? ⟨w.heap.size,3,none⟩=some (O J c.kind)/\w'.cell? ⟨w.heap.size,4,none⟩=some (O J c.a)/\w'.cell? ⟨w.heap.size,5,none⟩=some (O J c.b)/\w'.cell? ⟨w.heap.size,6,none⟩=some (O J c.time)/\w'.cell? ⟨w.heap.size,7,none⟩=some (O J c.bk)/\w'.cell? ⟨w.heap.size,8,none⟩=some (O J c.slot)) (first|exact HS.out _ HF2.out|exact HS.out _ ⟨rfl,rfl,rfl,Nat.le_refl _,fun _ _ _=>rfl⟩) (first|(go_at_call 107;refine(HBg.out _ (by exact HW2.out.below ⟨rfl,rfl,rfl,Nat.le_refl _,fun _ _=>rfl⟩) (by exact Hb1.out.trans ⟨rfl,rfl,rfl,Nat.le_refl _,fun _ _=>rfl⟩)).mono ?_;rintro e w2 ⟨rfl,hh,hf2⟩;have HF2:Hid (Fine W1 w2 (fun k=>k=g)):=⟨hf2.os,hf2.tape,hf2.output,hf2.size,hf2.block⟩;have HR:Hid ((E≠0/\Below n0 w w2)\/(E=0/\WP n0 B W' w w2)):=hh;clear hh hf2))
 all_goals
  go_wp2
  go_ret
  exact⟨rfl,HR.out⟩
end
end
section
open Go.Maps
def w0W:Wd:=⟨m0,[]⟩
def DoE(W:Wd)(x:Pk):Int:=if wE W≠0 then wE W else doE W x
def DoP(w:Wq)(W:Wd)(x:Pk)(e:Ending)(w':Wq):Prop :=
 ∃ v,e=.returned (.tuple #[v,O J (DoE W x)])/\D8 w.heap.size w' v (if DoE W x=0 then doW W x else w0W)/\Below w.heap.size w w'
theorem U5(lo:Nat)(w:Wq):D8 lo w (.agg #[Y none 0 0,Y none 0 0,Y none 0 0,Y none 0 0,O J 0,Y none 0 0]) w0W :=
 ⟨none,none,none,none,0,0,0,0,none,0,[],rfl,⟨⟨by decide,by decide,fun _=>rfl,.inl rfl⟩,⟨by decide,by decide,fun _=>rfl,.inl rfl⟩,⟨by decide,by decide,fun _=>rfl,.inl rfl⟩,⟨by decide,by decide,fun _=>rfl,.inl rfl⟩⟩,⟨(fun _ h=>by cases h),(fun _ h=>by cases h),(fun _ h=>by cases h),(fun _ h=>by cases h)⟩,rfl,a0e w,⟨(fun _ h=>by cases h),(fun _ h=>by cases h),(fun _ h=>by cases h)⟩⟩
theorem a9w(l:List (Tk × TkV))(x:Pk)(h:x.task.toNat<l.length)(M:Mm):Fq ⟨M,l.map (·.1)⟩ x=l[x.task.toNat].1:=by
 unfold Fq
 simp[List.getD_eq_getElem?_getD,h]
theorem a8m{w:Wq}{n0 B lo lo2:Nat}{aS aH aF aL:Option Addr}{cS cH cF cL:Nat}{M:Mm}{g cT n:Nat}{l:List (Tk × TkV)}(h:WM w n0 B lo lo2 aS aH aF aL cS cH cF cL M g cT n l)(hw:wE ⟨M,l.map (·.1)⟩=0)(x:Pk) :
  Calls Pg 58 #[.pointer (some ⟨B,0,none⟩),.agg #[O J x.task,.bool x.step,.bool x.tick,O J x.c.kind,O J x.c.a,O J x.c.b,O J x.c.time,O J x.c.bk,O J x.c.slot]] w (X5 n0 B (doE ⟨M,l.map (·.1)⟩ x) (doW ⟨M,l.map (·.1)⟩ x) w):=by
 obtain⟨hchk,-,-,htk⟩:=Jd.1 hw
 have hM:Ok M:=(Ku M).1 hchk
 have htk':∀ p∈l,p.1.held.length<=100/\(∀ a∈p.1.held,Dc M a=true)/\(p.1.busy=true->Fit M p.1.f):=fun p hp=>by
  have h1:=Oc.1 (htk p.1 (List.mem_map.2 ⟨p,hp,rfl⟩))
  exact⟨h1.1,h1.2.1,fun hb=>a3b.1 (h1.2.2 hb)⟩
 by_cases ht:x.tick=true
 ·have h1:=a5r h hM x ht
  have e1:doE ⟨M,l.map (·.1)⟩ x=if M.now=1000000 then 7 else 0:=by unfold doE;rw[if_pos ht]
  have e2:doW ⟨M,l.map (·.1)⟩ x=⟨{ M with now:=M.now+1 },l.map (·.1)⟩:=by unfold doW;rw[if_pos ht]
  rw[e1,e2];exact h1
 have ht':x.tick=false:=by simpa using ht
 by_cases hx:0<=x.task/\x.task<n
 rotate_left
 ·have e1:doE ⟨M,l.map (·.1)⟩ x=5:=by
   unfold doE
   have hn:¬ (0<=x.task/\x.task<(Wd.mk M (l.map (·.1))).ts.length):=by
    show ¬ (0<=x.task/\x.task<((l.map (·.1)).length:Nat))
    rw[List.length_map,h.len];exact hx
   rw[if_neg ht,if_pos hn]
  rw[e1]
  exact a5p h x ht' hx _
 obtain⟨i,hi⟩:∃ i:Nat,x.task=i:=⟨x.task.toNat,(Int.toNat_of_nonneg hx.1).symm⟩
 have hil:i<l.length:=by rw[h.len];omega
 have hin:0<=x.task/\x.task<((Wd.mk M (l.map (·.1))).ts.length:Nat):=by
  show 0<=x.task/\x.task<((l.map (·.1)).length:Nat)
  rw[List.length_map,h.len];exact hx
 have hta:Fq ⟨M,l.map (·.1)⟩ x=l[i].1:=by
  have:=a9w l x (by rw[hi];exact hil) M
  simpa [hi] using this
 have hti:x.task.toNat=i:=by rw[hi];rfl
 obtain⟨h5,hsl,hf⟩:=htk' _ (List.getElem_mem hil)
 by_cases hs:x.step=true
 ·have e1:doE ⟨M,l.map (·.1)⟩ x=if l[i].1.busy then 0 else 8:=by unfold doE;rw[if_neg ht,if_neg (fun hh=>hh hin),if_pos hs,hta]
  have e2:doW ⟨M,l.map (·.1)⟩ x=⟨(stepT M i l[i].1).1,(l.map (·.1)).set i (stepT M i l[i].1).2⟩:=by unfold doW;rw[if_neg ht,if_pos hs,hta,hti]
  rw[e1,e2,ht',hs,hi]
  exact a5q h hM i hil x.c hsl h5 hf
 ·have hs':x.step=false:=by simpa using hs
  have e1:doE ⟨M,l.map (·.1)⟩ x=Yl M l[i].1 x.c:=by
   unfold doE
   rw[if_neg ht,if_neg (fun hh=>hh hin),if_neg hs]
   unfold Y0 Yl
   rw[hta]
   have q1:((x.c.kind=1/\l[i].1.held.length=100) ↔ (x.c.kind=1/\100<=l[i].1.held.length)):=⟨fun ⟨a,b⟩=>⟨a,by omega⟩,fun ⟨a,b⟩=>⟨a,by omega⟩⟩
   have q2:((x.c.kind=6/\x.c.slot ∉ l[i].1.held) ↔ (x.c.kind=6/\hasB l[i].1.held x.c.slot=false)):=by rw[Vb]
   simp only[q1,q2]
  have e2:doW ⟨M,l.map (·.1)⟩ x=⟨M,(l.map (·.1)).set i ⟨true,Cm x.c,l[i].1.held⟩⟩:=by unfold doW;rw[if_neg ht,if_neg hs,hta,hti]
  rw[e1,e2,ht',hs',hi]
  exact a1j h hM i hil x.c
theorem b2z{W w1:Wq}{M:Mm}{gS gH gF gL:Option Addr}{kS kH kF kL g c1 lo2 n0:Nat}{l1:List (Tk × TkV)}{cs:Array Value}(hM:Ok M)(hR:Rw w1 W.heap.size gS gH gF gL kS kH kF kL M)(hL:LoM lo2 gS gH gF gL)(T:Bo w1 lo2 g c1 l1)
  (hk:∀ p∈l1,∀ a,p.2.aK=some a->a.block<w1.heap.size/\a.block≠g/\∀ q∈l1,∀ b,q.2.aH=some b->a.block≠b.block) (h2:W.heap.size<=lo2) (h0:n0<W.heap.size) (hB:w1.heap[n0]?=some (.cells cs 28 (0,0))) (hc:cs.size=6) :
  WM (w1.setCells n0 0 [Y gS M.slots.length kS,Y gH M.heads.length kH,Y gF M.free.length kF,Y gL M.locks.length kL,O J M.now,Y (some ⟨g,0,none⟩) l1.length c1]) W.heap.size n0 W.heap.size lo2 gS gH gF gL kS kH kF kL M g c1 l1.length l1:=by
 have q:∀ {lo e size n:Nat} {v:Value} {xs:List Value},w1.ownsRow lo e size v n xs->W.heap.size<=lo->(w1.setCells n0 0 [Y gS M.slots.length kS,Y gH M.heads.length kH,Y gF M.free.length kF,Y gL M.locks.length kL,O J M.now,Y (some ⟨g,0,none⟩) l1.length c1]).ownsRow lo e size v n xs:=fun {lo e size n v xs} h hl=>Bj h fun k hk=>Ad (by have:=(h.lt k hk).1;omega) _ _ _
 have hns:=hM.ns;have hnh:=hM.nh;have hnl:=hM.nl;have hfw:=Qu hM
 refine⟨⟨Bi hB (by rw[hc];rfl),⟨q hR.s (Nat.le_refl _),q hR.h (Nat.le_refl _),q hR.f (Nat.le_refl _),q hR.l (Nat.le_refl _),hR.hf,hR.hl,hR.fl,by rw[setCells_size];exact hR.lz⟩,by omega,by omega,by omega,by omega⟩,T.same fun k _ hk'=>Ad (fun e=>?_) _ _ _,rfl,fun k hf ht=>?_,fun p hp a ha=>by rw[setCells_size];exact hk p hp a ha,Nat.le_refl _,h2⟩
 ·subst e
  rcases hk' with h|⟨p,hp,a,ha,h⟩|⟨p,hp,a,ha,h⟩
  ·have:=T.glo.1;omega
  ·have:=(T.hlo hp ha).1;omega
  ·have:=T.klo p hp a ha;omega
 ·have hge:lo2<=k:=by
   rcases ht with h|⟨p,hp,a,ha,h⟩|⟨p,hp,a,ha,h⟩
   ·have:=T.glo.1;omega
   ·have:=(T.hlo hp ha).1;omega
   ·have:=T.klo p hp a ha;omega
  rcases hf with h|⟨ad,e,h⟩|⟨ad,e,h⟩|⟨ad,e,h⟩|⟨ad,e,h⟩
  ·omega
  ·have:=hL ad (.inl e);omega
  ·have:=hL ad (.inr (.inl e));omega
  ·have:=hL ad (.inr (.inr (.inl e)));omega
  ·have:=hL ad (.inr (.inr (.inr e)));omega
theorem a7e(M:Mm)(l:List (Tk × TkV))(x:Pk)(aS aH aF aL:Option Addr)(cS cH cF cL:Nat)(aT:Option Addr)(cT:Nat)(w:Wq)(A:At w aS aH aF aL cS cH cF cL M)(r:Ef w aT cT l) :
  Calls Pg 15 #[.agg #[Y aS M.slots.length cS,Y aH M.heads.length cH,Y aF M.free.length cF,Y aL M.locks.length cL,O J M.now,Y aT l.length cT],.agg #[O J x.task,.bool x.step,.bool x.tick,O J x.c.kind,O J x.c.a,O J x.c.b,O J x.c.time,O J x.c.bk,O J x.c.slot]] w (DoP w ⟨M,l.map (·.1)⟩ x):=by
 obtain⟨ox,hox⟩:∃ o:Obj,o=.cells #[Y aS M.slots.length cS,Y aH M.heads.length cH,Y aF M.free.length cF,Y aL M.locks.length cL,O J M.now,Y aT l.length cT] 28:=⟨_,rfl⟩
 obtain⟨oy,hoy⟩:∃ o:Obj,o=.cells #[O J x.task,.bool x.step,.bool x.tick,O J x.c.kind,O J x.c.a,O J x.c.b,O J x.c.time,O J x.c.bk,O J x.c.slot] 34:=⟨_,rfl⟩
 obtain⟨oz,hoz⟩:∃ o:Obj,o=.cells #[Y none 0 0,Y none 0 0,Y none 0 0,Y none 0 0,O J 0,Y none 0 0] 28:=⟨_,rfl⟩
 have z1:(w.alloc ox).heap.size=w.heap.size+1:=by simp
 have z2:((w.alloc ox).alloc oy).heap.size=w.heap.size+2:=by simp
 have z3:(((w.alloc ox).alloc oy).alloc oz).heap.size=w.heap.size+3:=by simp
 have b0:Below w.heap.size w (((w.alloc ox).alloc oy).alloc oz):=(below_alloc2 w ox oy).alloc (by omega) _
 have HX0:Hid ((((w.alloc ox).alloc oy).alloc oz).heap[w.heap.size]?=some ox):=by show _=_;rw[Below.heap_alloc _ _ _ (by omega),Below.heap_alloc _ _ _ (by omega),heap_alloc_new]
 have HY0:Hid ((((w.alloc ox).alloc oy).alloc oz).heap[w.heap.size+1]?=some oy):=by
  have:=heap_alloc_new (w.alloc ox) oy
  rw[z1] at this
  show _=_
  rw[Below.heap_alloc _ _ _ (by omega)];exact this
 have HZ0:Hid ((((w.alloc ox).alloc oy).alloc oz).heap[w.heap.size+2]?=some oz):=by
  have:=heap_alloc_new ((w.alloc ox).alloc oy) oz
  rwa [z2] at this
 have HA0:Hid (At (((w.alloc ox).alloc oy).alloc oz) aS aH aF aL cS cH cF cL M):=A.below b0
 have HR0:Hid (Ef (((w.alloc ox).alloc oy).alloc oz) aT cT l):=r.below b0
 obtain⟨C0,hC0⟩:∃ C0,C0=wE ⟨M,l.map (·.1)⟩:=⟨_,rfl⟩
 have HC0:Hid (C0=wE ⟨M,l.map (·.1)⟩):=hC0
 have l6:Hid ((((w.alloc ox).alloc oy).alloc oz).rangeAt w.heap.size 0 [Y aS M.slots.length cS,Y aH M.heads.length cH,Y aF M.free.length cF,Y aL M.locks.length cL,O J M.now,Y aT l.length cT]):=by
  have:=HX0.out
  rw[hox] at this ⊢
  exact Au this rfl
 clear A r hC0 z1 z2
 go_enter Tryz.func15,Tryz.ntmps15
 subst hox hoy hoz
 go_wp2_with (refine Ha rfl _ rfl rfl l6.out ?_)
 generalize ((w.alloc _).alloc _).alloc _=W0 at *
 clear l6
 refine(Ph M l aS aH aF aL cS cH cF cL aT cT W0 HA0.out HR0.out).mono ?_
 rw[<- HC0.out]
 rintro e w1 ⟨rfl,hb1⟩
 have HX1:Hid (w1.heap[w.heap.size]?=_):=(hb1.block _ (lt_of_block HX0.out)).trans HX0.out
 have HY1:Hid (w1.heap[w.heap.size+1]?=_):=(hb1.block _ (lt_of_block HY0.out)).trans HY0.out
 have HZ1:Hid (w1.heap[w.heap.size+2]?=_):=(hb1.block _ (lt_of_block HZ0.out)).trans HZ0.out
 have HA1:Hid (At w1 aS aH aF aL cS cH cF cL M):=HA0.out.below hb1
 have HR1:Hid (Ef w1 aT cT l):=HR0.out.below hb1
 have b1:Below w.heap.size w w1:=b0.trans (hb1.mono b0.size)
 have zz1:w.heap.size+3<=w1.heap.size:=by have:=hb1.size;omega
 clear HX0 HY0 HZ0 HA0 HR0 hb1 b0 z3
 by_cases hC:C0=0
 rotate_left
 ·have h':(C0 != 0)=true:=by simpa using hC
  have HE:Hid (DoE ⟨M,l.map (·.1)⟩ x=C0/\C0≠0):=⟨by unfold DoE;rw[<- HC0.out,if_pos hC],hC⟩
  have t6:Hid (w1.there (w.heap.size+2) 0 6):=Az HZ1.out (by simp)
  have HZ2:Hid ((w1.setCells (w.heap.size+2) 0 [Y none 0 0,Y none 0 0,Y none 0 0,Y none 0 0,O J 0,Y none 0 0]).heap[w.heap.size+2]?=some (.cells #[Y none 0 0,Y none 0 0,Y none 0 0,Y none 0 0,O J 0,Y none 0 0] 28 (0,0))):=Bi HZ1.out rfl
  have b2:Below w.heap.size w (w1.setCells (w.heap.size+2) 0 [Y none 0 0,Y none 0 0,Y none 0 0,Y none 0 0,O J 0,Y none 0 0]):=Aw b1 (by omega)
  clear HX1 HY1 HZ1 HA1 HR1 hC HC0
  go_wp2_with (refine Gz rfl _ _ rfl rfl rfl t6.out (by kernel_rfl) ?_)
  generalize w1.setCells (w.heap.size+2) 0 _=W2 at *
  obtain⟨r0,r1,r2,r3,r4,r5,rs⟩:=Bc HZ2.out
  refine bodyPost_ret (v:=.tuple #[.agg #[Y none 0 0,Y none 0 0,Y none 0 0,Y none 0 0,O J 0,Y none 0 0],O J (C0)]) (by simp[results,Tryz.results15,go_sem,r0,r1,r2,r3,r4,r5]) rfl ?_
  refine⟨_,by rw[HE.out.1],?_,b2⟩
  rw[if_neg (by rw[HE.out.1];exact HE.out.2)]
  exact U5 _ _
 have HW:Hid (wE ⟨M,l.map (·.1)⟩=0):=by show _=_;rw[<- HC0.out];exact hC
 have HDE:Hid (DoE ⟨M,l.map (·.1)⟩ x=doE ⟨M,l.map (·.1)⟩ x):=by show _=_;unfold DoE;rw[HW.out,if_neg (by simp)]
 subst hC
 have l6:Hid (w1.rangeAt w.heap.size 0 [Y aS M.slots.length cS,Y aH M.heads.length cH,Y aF M.free.length cF,Y aL M.locks.length cL,O J M.now,Y aT l.length cT]):=Au HX1.out rfl
 have HwE:=Jd.1 HW.out
 have hM:Ok M:=(Ku M).1 HwE.1
 have HOwn:Hid (Calls Pg 57 #[.agg #[Y aS M.slots.length cS,Y aH M.heads.length cH,Y aF M.free.length cF,Y aL M.locks.length cL,O J M.now,Y aT l.length cT]] w1 (b0l w1 M (l.map (·.1)))):=a3l M l aS aH aF aL cS cH cF cL aT cT w1 HA1.out HR1.out (by simpa using HwE.2.1) (by simpa using HwE.2.2.1) (fun p hp=>by have:=(Oc.1 (HwE.2.2.2 p.1 (List.mem_map.2 ⟨p,hp,rfl⟩))).1;omega)
 clear HwE HA1 HR1 HC0
 go_wp2_with (refine Ha rfl _ rfl rfl l6.out ?_)
 refine HOwn.out.mono ?_
 rintro e w2 ⟨gS,gH,gF,gL,kS,kH,kF,kL,g,c1,l1,lo2,rfl,hR2,hL2,hT2,hk2,hm2,hlo2,hb2⟩
 have HX2:Hid (w2.heap[w.heap.size]?=_):=(hb2.block _ (lt_of_block HX1.out)).trans HX1.out
 have HM3:Hid (WM (w2.setCells w.heap.size 0 [Y gS M.slots.length kS,Y gH M.heads.length kH,Y gF M.free.length kF,Y gL M.locks.length kL,O J M.now,Y (some ⟨g,0,none⟩) l1.length c1]) w1.heap.size w.heap.size w1.heap.size lo2 gS gH gF gL kS kH kF kL M g c1 l1.length l1):=b2z hM hR2 hL2 hT2 hk2 hlo2 (by omega) HX2.out rfl
 have HY3:Hid ((w2.setCells w.heap.size 0 [Y gS M.slots.length kS,Y gH M.heads.length kH,Y gF M.free.length kF,Y gL M.locks.length kL,O J M.now,Y (some ⟨g,0,none⟩) l1.length c1]).heap[w.heap.size+1]?=_):=(Ad (by omega) _ _ _).trans ((hb2.block _ (lt_of_block HY1.out)).trans HY1.out)
 have HZ3:Hid ((w2.setCells w.heap.size 0 [Y gS M.slots.length kS,Y gH M.heads.length kH,Y gF M.free.length kF,Y gL M.locks.length kL,O J M.now,Y (some ⟨g,0,none⟩) l1.length c1]).heap[w.heap.size+2]?=_):=(Ad (by omega) _ _ _).trans ((hb2.block _ (lt_of_block HZ1.out)).trans HZ1.out)
 have b3:Below w.heap.size w (w2.setCells w.heap.size 0 [Y gS M.slots.length kS,Y gH M.heads.length kH,Y gF M.free.length kF,Y gL M.locks.length kL,O J M.now,Y (some ⟨g,0,none⟩) l1.length c1]):=Aw (b1.trans (hb2.mono b1.size)) (Nat.le_refl _)
 have t6:Hid (w2.there w.heap.size 0 6):=Az HX2.out (by simp)
 have HW3:Hid (wE ⟨M,l1.map (·.1)⟩=0):=by show _=_;rw[hm2];exact HW.out
 have HDE3:Hid (DoE ⟨M,l.map (·.1)⟩ x=doE ⟨M,l1.map (·.1)⟩ x/\doW ⟨M,l.map (·.1)⟩ x=doW ⟨M,l1.map (·.1)⟩ x):=⟨by rw[HDE.out,hm2],by rw[hm2]⟩
 clear HX1 HY1 HZ1 HX2 hR2 hL2 hT2 hk2 hm2 hlo2 hb2 HOwn b1 l6 HW HDE hM
 have lX:Hid ((w2.setCells w.heap.size 0 [Y gS M.slots.length kS,Y gH M.heads.length kH,Y gF M.free.length kF,Y gL M.locks.length kL,O J M.now,Y (some ⟨g,0,none⟩) l1.length c1]).rangeAt (w.heap.size+1) 0 [O J x.task,.bool x.step,.bool x.tick,O J x.c.kind,O J x.c.a,O J x.c.b,O J x.c.time,O J x.c.bk,O J x.c.slot]):=Au HY3.out rfl
 obtain⟨EE,hEE⟩:∃ EE,EE=DoE ⟨M,l.map (·.1)⟩ x:=⟨_,rfl⟩
 obtain⟨WW,hWW⟩:∃ WW,WW=doW ⟨M,l.map (·.1)⟩ x:=⟨_,rfl⟩
 have HEW:Hid (EE=DoE ⟨M,l.map (·.1)⟩ x/\WW=doW ⟨M,l.map (·.1)⟩ x):=⟨hEE,hWW⟩
 have HPk:Hid (Calls Pg 58 #[.pointer (some ⟨w.heap.size,0,none⟩),.agg #[O J x.task,.bool x.step,.bool x.tick,O J x.c.kind,O J x.c.a,O J x.c.b,O J x.c.time,O J x.c.bk,O J x.c.slot]] (w2.setCells w.heap.size 0 [Y gS M.slots.length kS,Y gH M.heads.length kH,Y gF M.free.length kF,Y gL M.locks.length kL,O J M.now,Y (some ⟨g,0,none⟩) l1.length c1]) (X5 w1.heap.size w.heap.size EE WW (w2.setCells w.heap.size 0 [Y gS M.slots.length kS,Y gH M.heads.length kH,Y gF M.free.length kF,Y gL M.locks.length kL,O J M.now,Y (some ⟨g,0,none⟩) l1.length c1]))):=by
  have h:=a8m HM3.out HW3.out x
  rw[<- HDE3.out.1,<- HDE3.out.2,<- hEE,<- hWW] at h
  exact h
 clear hEE hWW HM3 HW3 HDE3
 dsimp only
 iterate 1 (first|go_values|go_skip|go_guarded|go_step|go_upon)
 refine Gz rfl _ _ rfl rfl rfl t6.out (by kernel_rfl) ?_
 clear t6
 generalize w2.setCells w.heap.size 0 _=W3 at *
 go_wp2_with (refine Wh rfl _ rfl rfl lX.out ?_)
 clear lX HY3
 refine HPk.out.mono ?_
 rintro e w4 ⟨rfl,hp⟩
 have hz3:=lt_of_block HZ3.out
 rcases hp with ⟨hE,hb4⟩|⟨rfl,aS2,aH2,aF2,aL2,cS2,cH2,cF2,cL2,aT2,cT2,l2,hbx,hA,hHi,hTr,hTh,hts,hK⟩
 ·have HZ4:Hid (w4.heap[w.heap.size+2]?=_):=(hb4.block _ (by omega)).trans HZ3.out
  have h':(EE != 0)=true:=by simpa using hE
  have t6:Hid (w4.there (w.heap.size+2) 0 6):=Az HZ4.out (by simp)
  have HZ5:Hid ((w4.setCells (w.heap.size+2) 0 [Y none 0 0,Y none 0 0,Y none 0 0,Y none 0 0,O J 0,Y none 0 0]).heap[w.heap.size+2]?=some (.cells #[Y none 0 0,Y none 0 0,Y none 0 0,Y none 0 0,O J 0,Y none 0 0] 28 (0,0))):=Bi HZ4.out rfl
  have b5:Below w.heap.size w (w4.setCells (w.heap.size+2) 0 [Y none 0 0,Y none 0 0,Y none 0 0,Y none 0 0,O J 0,Y none 0 0]):=Aw (b3.trans (hb4.mono (by omega))) (by omega)
  have HNe:Hid (EE≠0):=hE
  clear HZ3 HZ4 hb4 hE HPk
  go_wp2_with (refine Gz rfl _ _ rfl rfl rfl t6.out (by kernel_rfl) ?_)
  generalize w4.setCells (w.heap.size+2) 0 _=W5 at *
  obtain⟨r0,r1,r2,r3,r4,r5,rs⟩:=Bc HZ5.out
  refine bodyPost_ret (v:=.tuple #[.agg #[Y none 0 0,Y none 0 0,Y none 0 0,Y none 0 0,O J 0,Y none 0 0],O J (EE)]) (by simp[results,Tryz.results15,go_sem,r0,r1,r2,r3,r4,r5]) rfl ?_
  refine⟨_,by rw[<- HEW.out.1],?_,b5⟩
  rw[<- HEW.out.1,if_neg HNe.out]
  exact U5 _ _
 ·have HZ4:Hid (w4.heap[w.heap.size+2]?=_):=(hK.block _ (by omega) (by omega)).trans HZ3.out
  have t6:Hid (w4.there (w.heap.size+2) 0 6):=Az HZ4.out (by simp)
  have l6:Hid (w4.rangeAt w.heap.size 0 [Y aS2 WW.m.slots.length cS2,Y aH2 WW.m.heads.length cH2,Y aF2 WW.m.free.length cF2,Y aL2 WW.m.locks.length cL2,O J WW.m.now,Y aT2 (List.length l2) cT2]):=Au hbx rfl
  have HZ5:Hid ((w4.setCells (w.heap.size+2) 0 [Y aS2 WW.m.slots.length cS2,Y aH2 WW.m.heads.length cH2,Y aF2 WW.m.free.length cF2,Y aL2 WW.m.locks.length cL2,O J WW.m.now,Y aT2 (List.length l2) cT2]).heap[w.heap.size+2]?=some (.cells #[Y aS2 WW.m.slots.length cS2,Y aH2 WW.m.heads.length cH2,Y aF2 WW.m.free.length cF2,Y aL2 WW.m.locks.length cL2,O J WW.m.now,Y aT2 (List.length l2) cT2] 28 (0,0))):=Bi HZ4.out rfl
  have b5:Below w.heap.size w (w4.setCells (w.heap.size+2) 0 [Y aS2 WW.m.slots.length cS2,Y aH2 WW.m.heads.length cH2,Y aF2 WW.m.free.length cF2,Y aL2 WW.m.locks.length cL2,O J WW.m.now,Y aT2 (List.length l2) cT2]):=Aw (b3.trans (hK.down (by omega) (Nat.le_refl _))) (by omega)
  have ho5:∀ k,k≠w.heap.size+2->(w4.setCells (w.heap.size+2) 0 [Y aS2 WW.m.slots.length cS2,Y aH2 WW.m.heads.length cH2,Y aF2 WW.m.free.length cF2,Y aL2 WW.m.locks.length cL2,O J WW.m.now,Y aT2 (List.length l2) cT2]).heap[k]?=w4.heap[k]?:=fun k hk=>Ad hk _ _ _
  have HW5:Hid (D8 w.heap.size (w4.setCells (w.heap.size+2) 0 [Y aS2 WW.m.slots.length cS2,Y aH2 WW.m.heads.length cH2,Y aF2 WW.m.free.length cF2,Y aL2 WW.m.locks.length cL2,O J WW.m.now,Y aT2 (List.length l2) cT2]) (.agg #[Y aS2 WW.m.slots.length cS2,Y aH2 WW.m.heads.length cH2,Y aF2 WW.m.free.length cF2,Y aL2 WW.m.locks.length cL2,O J WW.m.now,Y aT2 (List.length l2) cT2]) WW):=by
   refine⟨aS2,aH2,aF2,aL2,cS2,cH2,cF2,cL2,aT2,cT2,l2,by rw[<- hts,List.length_map],hA.off hHi (g:=w.heap.size+2) (by omega) ho5,hHi.mono (by omega),hts.symm,?_,hTh.mono (by omega)⟩
   refine⟨hTr.le,hTr.max,hTr.nil,?_,fun p hp=>Ec (hTr.keys p hp) fun _ ad e _=>ho5 _ (by have:=hTh.keys p hp ad e;omega),fun p hp=>Sr (hTr.held p hp) fun ad e=>ho5 _ (by have:=hTh.held p hp ad e;omega)⟩
   rcases hTr.at_ with h0|⟨b,o,e,hc⟩
   ·exact .inl h0
   ·have hb':=ho5 b (by have:=hTh.row _ e;dsimp only at this;omega)
    exact .inr ⟨b,o,e,fun i hi q hq=>(World.cell?_of_block (a:=⟨b,o+i*16+q,none⟩) hb').trans (hc i hi q hq)⟩
  clear HZ3 HZ4 HPk hbx hA hHi hTr hTh hts hK ho5
  go_wp2_with (first|refine Ha rfl _ rfl rfl l6.out ?_|refine Gz rfl _ _ rfl rfl rfl t6.out (by kernel_rfl) ?_)
  generalize w4.setCells (w.heap.size+2) 0 _=W5 at *
  obtain⟨r0,r1,r2,r3,r4,r5,rs⟩:=Bc HZ5.out
  refine bodyPost_ret (v:=.tuple #[.agg #[Y aS2 WW.m.slots.length cS2,Y aH2 WW.m.heads.length cH2,Y aF2 WW.m.free.length cF2,Y aL2 WW.m.locks.length cL2,O J WW.m.now,Y aT2 (List.length l2) cT2],O J (0)]) (by simp[results,Tryz.results15,go_sem,r0,r1,r2,r3,r4,r5]) rfl ?_
  refine⟨_,by rw[<- HEW.out.1],?_,b5⟩
  rw[<- HEW.out.1,if_pos rfl,<- HEW.out.2]
  exact HW5.out
end
section
open Go.Maps
theorem Um{n:Nat}{a w:Wq}(h:Below n a w):Below n a w.drew:=below_drewN h 1
def Nc:TkV:=⟨none,0,none,0⟩
theorem Vk(n:Nat):(madeCells #[.bool false,O J 0,O J 0,O J 0,O J 0,O J 0,O J 0,O J 0,O J 0,O J 0,O J 0,O J 0,Y none 0 0,.bool false,O J 0,Y none 0 0] (n*16)).toList=Ep (List.replicate n (idle,Nc)):=by
 apply List.ext_getElem?
 intro j
 by_cases hj:j<n*16
 ·have h6:j / 16<(List.replicate n (idle,Nc)).length:=by rw[List.length_replicate];omega
  have hq:j % 16<16:=by omega
  have e6:j / 16*16+j % 16=j:=by omega
  have r:(Ep (List.replicate n (idle,Nc)))[j]?=(idle.enc Nc)[j % 16]?:=by
   have:=Ho (q:=j % 16) h6 hq
   rw[e6] at this
   rw[this]
   simp
  rw[r]
  have l:(madeCells #[.bool false,O J 0,O J 0,O J 0,O J 0,O J 0,O J 0,O J 0,O J 0,O J 0,O J 0,O J 0,Y none 0 0,.bool false,O J 0,Y none 0 0] (n*16)).toList[j]?=some ((#[.bool false,O J 0,O J 0,O J 0,O J 0,O J 0,O J 0,O J 0,O J 0,O J 0,O J 0,O J 0,Y none 0 0,.bool false,O J 0,Y none 0 0]:Array Value)[j % 16]!):=by
   simp[madeCells,hj]
  rw[l]
  generalize j % 16=q at hq
  have hc:q=0\/q=1\/q=2\/q=3\/q=4\/q=5\/q=6\/q=7\/q=8\/q=9\/q=10\/q=11\/q=12\/q=13\/q=14\/q=15:=by omega
  rcases hc with rfl|rfl|rfl|rfl|rfl|rfl|rfl|rfl|rfl|rfl|rfl|rfl|rfl|rfl|rfl|rfl <;> rfl
 ·rw[List.getElem?_eq_none (by simp[madeCells];omega),List.getElem?_eq_none (by rw[Jg];simp;omega)]
theorem newRow(V:Wq)(X:Array Value)(n:Nat)(hX:X.toList=Ep (List.replicate n (idle,Nc)))(hn5:n<=5):Ef ((V.alloc (.cells X 49)).drew) (some ⟨V.heap.size,0,none⟩) n (List.replicate n (idle,Nc)):=by
 have hsz:X.size=n*16:=by rw[<- Array.length_toList,hX,Jg,List.length_replicate]
 have hown:=World.ownsRow_lit (base:=0) (e:=49) (size:=16) V X n (Nat.zero_le _) (by unfold maxLen;omega) hsz
 rw[hX] at hown
 have hown':=hown.drew
 refine⟨by simp,by simp;omega,(fun h=>by cases h),.inr ⟨V.heap.size,0,rfl,fun i hi q hq=>?_⟩,fun p hp=>?_,fun p hp=>?_⟩
 ·have h:=hown'.cellAt (i*16+q) (by rw[List.length_replicate] at hi;omega)
  rw[Ho hi hq] at h
  rw[Nat.zero_add]
  exact h
 ·rw[List.eq_of_mem_replicate hp];exact Ky _
 ·rw[List.eq_of_mem_replicate hp];exact⟨by decide,by decide,fun _=>rfl,.inl rfl⟩
def Nj(many buckets tasks:Int):Int:=if Wx many buckets≠0 then 3 else if inB tasks 1 5 then 0 else 3
def b3a(w:Wq)(many buckets tasks:Int)(e:Ending)(w':Wq):Prop :=
 ∃ v,e=.returned (.tuple #[v,O J (Nj many buckets tasks)])/\D8 w.heap.size w' v (if Nj many buckets tasks=0 then Px many.toNat buckets.toNat tasks.toNat else w0W)/\Below w.heap.size w w'
theorem a8h(many buckets tasks:Int)(w:Wq)(h:Wx many buckets=3):Calls Pg 16 #[O J many,O J buckets,O J tasks] w (b3a w many buckets tasks):=by
 have HE:Hid (Nj many buckets tasks=3):=by show _=_;unfold Nj;rw[h,if_pos (by decide)]
 obtain⟨oz,hoz⟩:∃ o:Obj,o=.cells #[Y none 0 0,Y none 0 0,Y none 0 0,Y none 0 0,O J 0,Y none 0 0] 28:=⟨_,rfl⟩
 have b0:Below w.heap.size w (w.alloc oz):=A7 w oz
 have HZ0:Hid ((w.alloc oz).heap[w.heap.size]?=some oz):=heap_alloc_new w oz
 have HN:Hid (∀ W,Calls Pg 59 #[O J many,O J buckets] W fun e w'=>e=.returned (.tuple #[.agg #[Y none 0 0,Y none 0 0,Y none 0 0,Y none 0 0,O J 0],O J 3])/\Below W.heap.size W w'):=fun W=>b1l many buckets W h
 clear h
 go_enter Tryz.func16,Tryz.ntmps16
 go_wp2_with fail
 rw[<- hoz]
 generalize w.alloc oz=W0 at *
 subst hoz
 refine(HN.out W0).mono ?_
 rintro e w1 ⟨rfl,hb1⟩
 have HZ1:Hid (w1.heap[w.heap.size]?=_):=(hb1.block _ (lt_of_block HZ0.out)).trans HZ0.out
 have b1:Below w.heap.size w w1:=b0.trans (hb1.mono b0.size)
 clear hb1 b0 HZ0
 have HZ2:Hid ((w1.alloc (.cells #[Y none 0 0,Y none 0 0,Y none 0 0,Y none 0 0,O J 0] 25)).heap[w.heap.size]?=_):=(Below.heap_alloc _ _ _ (lt_of_block HZ1.out)).trans HZ1.out
 have t6:Hid ((w1.alloc (.cells #[Y none 0 0,Y none 0 0,Y none 0 0,Y none 0 0,O J 0] 25)).there w.heap.size 0 6):=Az HZ2.out (by simp)
 have HZ3:Hid (((w1.alloc (.cells #[Y none 0 0,Y none 0 0,Y none 0 0,Y none 0 0,O J 0] 25)).setCells w.heap.size 0 [Y none 0 0,Y none 0 0,Y none 0 0,Y none 0 0,O J 0,Y none 0 0]).heap[w.heap.size]?=some (.cells #[Y none 0 0,Y none 0 0,Y none 0 0,Y none 0 0,O J 0,Y none 0 0] 28 (0,0))):=Bi HZ2.out rfl
 have b3:Below w.heap.size w ((w1.alloc (.cells #[Y none 0 0,Y none 0 0,Y none 0 0,Y none 0 0,O J 0] 25)).setCells w.heap.size 0 [Y none 0 0,Y none 0 0,Y none 0 0,Y none 0 0,O J 0,Y none 0 0]):=Aw (b1.alloc b1.size _) (Nat.le_refl _)
 go_wp2_with (refine Gz rfl _ _ rfl rfl rfl t6.out (by kernel_rfl) ?_)
 generalize (w1.alloc _).setCells w.heap.size 0 _=W3 at *
 obtain⟨r0,r1,r2,r3,r4,r5,rs⟩:=Bc HZ3.out
 refine bodyPost_ret (v:=.tuple #[.agg #[Y none 0 0,Y none 0 0,Y none 0 0,Y none 0 0,O J 0,Y none 0 0],O J (3)]) (by simp[results,Tryz.results16,go_sem,r0,r1,r2,r3,r4,r5]) rfl ?_
 refine⟨_,by rw[HE.out],?_,b3⟩
 rw[HE.out,if_neg (by decide)]
 exact U5 _ _
theorem b1k(many buckets:Nat)(tasks:Int)(w:Wq)(h1:many<=12)(h2:1<=buckets)(h3:buckets<=4):Calls Pg 16 #[O J (many:Int),O J (buckets:Int),O J tasks] w (b3a w many buckets tasks):=by
 have hn:Wx (many:Int) (buckets:Int)=0:=by
  unfold Wx
  have e1:inB (many:Int) 0 12=true:=(Aj _ _ _).2 ⟨by omega,by omega⟩
  have e2:inB (buckets:Int) 1 4=true:=(Aj _ _ _).2 ⟨by omega,by omega⟩
  rw[e1,e2];rfl
 have HE:Hid (Nj many buckets tasks=if inB tasks 1 5 then 0 else 3):=by show _=_;unfold Nj;rw[hn,if_neg (by decide)]
 obtain⟨oz,hoz⟩:∃ o:Obj,o=.cells #[Y none 0 0,Y none 0 0,Y none 0 0,Y none 0 0,O J 0,Y none 0 0] 28:=⟨_,rfl⟩
 have b0:Below w.heap.size w (w.alloc oz):=A7 w oz
 have HZ0:Hid ((w.alloc oz).heap[w.heap.size]?=some oz):=heap_alloc_new w oz
 have HN:Hid (∀ W,Calls Pg 59 #[O J (many:Int),O J (buckets:Int)] W fun e w'=>∃ v,e=.returned (.tuple #[v,O J 0])/\Ans W.heap.size w' v (L6 many buckets)/\Below W.heap.size W w'):=fun W=>b3o many buckets W h1 h2 h3
 have HMy:Hid (∀ W,Calls Pg 60 #[O J tasks] W fun e w'=>e=.returned (.bool (inB tasks 1 5))/\W=w'):=fun W=>Xm tasks W
 have z0:(w.alloc oz).heap.size=w.heap.size+1:=by simp
 obtain⟨MM,hMM⟩:∃ MM,MM=L6 many buckets:=⟨_,rfl⟩
 rw[<- hMM] at HN
 have HMM:Hid (MM=L6 many buckets):=hMM
 clear hn hMM
 go_enter Tryz.func16,Tryz.ntmps16
 go_wp2_with fail
 rw[<- hoz]
 generalize w.alloc oz=W0 at *
 subst hoz
 refine(HN.out W0).mono ?_
 rintro e w1 ⟨v,rfl,⟨aS,aH,aF,aL,cS,cH,cF,cL,rfl,A,hi⟩,hb1⟩
 have HZ1:Hid (w1.heap[w.heap.size]?=_):=(hb1.block _ (lt_of_block HZ0.out)).trans HZ0.out
 have b1:Below w.heap.size w w1:=b0.trans (hb1.mono b0.size)
 have zz:=hb1.size
 obtain⟨om,hom⟩:∃ o:Obj,o=.cells #[Y aS MM.slots.length cS,Y aH MM.heads.length cH,Y aF MM.free.length cF,Y aL MM.locks.length cL,O J MM.now] 25:=⟨_,rfl⟩
 have HZ2:Hid ((w1.alloc om).heap[w.heap.size]?=_):=(Below.heap_alloc _ _ _ (lt_of_block HZ1.out)).trans HZ1.out
 have HM2:Hid ((w1.alloc om).heap[w1.heap.size]?=some om):=heap_alloc_new _ _
 have HA2:Hid (At (w1.alloc om) aS aH aF aL cS cH cF cL MM):=A.below (A7 _ _)
 have HHi:Hid (Hi4 W0.heap.size aS aH aF aL):=hi
 have b2:Below w.heap.size w (w1.alloc om):=b1.alloc b1.size _
 have z2:(w1.alloc om).heap.size=w1.heap.size+1:=by simp
 clear hb1 b0 HZ0 HZ1 A hi b1
 go_wp2_with fail
 rw[<- hom]
 refine(HMy.out _).mono ?_
 rintro e w1' ⟨rfl,rfl⟩
 generalize w1.alloc om=W2 at *
 subst hom
 rcases (Bool.eq_false_or_eq_true (inB tasks 1 5)).symm with ht|ht
 ·rw[ht]
  have HE3:Hid (Nj many buckets tasks=3):=by show _=_;rw[HE.out,ht];rfl
  have t6:Hid (W2.there w.heap.size 0 6):=Az HZ2.out (by simp)
  have HZ3:Hid ((W2.setCells w.heap.size 0 [Y none 0 0,Y none 0 0,Y none 0 0,Y none 0 0,O J 0,Y none 0 0]).heap[w.heap.size]?=some (.cells #[Y none 0 0,Y none 0 0,Y none 0 0,Y none 0 0,O J 0,Y none 0 0] 28 (0,0))):=Bi HZ2.out rfl
  have b3:Below w.heap.size w (W2.setCells w.heap.size 0 [Y none 0 0,Y none 0 0,Y none 0 0,Y none 0 0,O J 0,Y none 0 0]):=Aw b2 (Nat.le_refl _)
  clear HZ2 HM2 HA2 HHi ht
  go_wp2_with (refine Gz rfl _ _ rfl rfl rfl t6.out (by kernel_rfl) ?_)
  generalize W2.setCells w.heap.size 0 _=W3 at *
  obtain⟨r0,r1,r2,r3,r4,r5,rs⟩:=Bc HZ3.out
  refine bodyPost_ret (v:=.tuple #[.agg #[Y none 0 0,Y none 0 0,Y none 0 0,Y none 0 0,O J 0,Y none 0 0],O J (3)]) (by simp[results,Tryz.results16,go_sem,r0,r1,r2,r3,r4,r5]) rfl ?_
  refine⟨_,by rw[HE3.out],?_,b3⟩
  rw[HE3.out,if_neg (by decide)]
  exact U5 _ _
 ·rw[ht]
  have HE0:Hid (Nj many buckets tasks=0):=by show _=_;rw[HE.out,ht];rfl
  obtain⟨n,hn⟩:∃ n:Nat,tasks=n:=by
   have:=(Aj _ _ _).1 ht
   exact⟨tasks.toNat,(Int.toNat_of_nonneg (by omega)).symm⟩
  subst hn
  have hn5:1<=n/\n<=5:=by have:=(Aj _ _ _).1 ht;omega
  obtain⟨i0,hi0,hz0,hz1,hz2⟩:=info_parts iT
  obtain⟨q0,q1,q2,q3,q4,f0,f1,f2,f3,f4,qs⟩:=Af HM2.out
  clear ht f0 f1 f2 f3 f4
  obtain⟨X,hX⟩:∃ X,X=madeCells (Value.agg #[.bool false,O J 0,O J 0,O J 0,O J 0,O J 0,O J 0,O J 0,O J 0,O J 0,O J 0,O J 0,Y none 0 0,.bool false,O J 0,Y none 0 0]).cells (n*16):=⟨_,rfl⟩
  have hmk:∀ W:Wq,(Instr.makeSlice 26 (O J (n:Int)) (O J (n:Int))).run Pg W=.ok (Y (some ⟨W.heap.size,0,none⟩) n n) (W.alloc (.cells X 49)):=fun W=>by
   have h:=run_make (P:=Pg) W 26 49 i0 _ Tryz.underlying26 hi0 hz0 .i64 .i64 (n:Int) (n:Int) (by omega) (Int.le_refl _) (by rw[hz2];omega) (by omega)
   simp only[Int.toNat_natCast,hz1] at h
   rw[hX];exact h
  have HX:Hid (X.toList=Ep (List.replicate n (idle,Nc))):=by show _=_;rw[hX];exact Vk n
  have hlw:w.heap.size<W2.heap.size:=lt_of_block HZ2.out
  obtain⟨y0,y1,y2,y3,y4,y5,ys⟩:=Bc HZ2.out
  have g0:=unfrozen_of_block HZ2.out 0
  have g1:=unfrozen_of_block HZ2.out 1
  have g2:=unfrozen_of_block HZ2.out 2
  have g3:=unfrozen_of_block HZ2.out 3
  have g4:=unfrozen_of_block HZ2.out 4
  have g5:=unfrozen_of_block HZ2.out 5
  have Hz2:Hid (W2.heap.size=w1.heap.size+1):=z2
  clear hX hi0 hz0 hz1 hz2 z2
  have HAns:Hid (D8 w.heap.size (((W2.setCells w.heap.size 0 [Y aS MM.slots.length cS,Y aH MM.heads.length cH,Y aF MM.free.length cF,Y aL MM.locks.length cL,O J MM.now,Y (some ⟨W2.heap.size,0,none⟩) n n]).alloc (.cells X 49)).drew) (.agg #[Y aS MM.slots.length cS,Y aH MM.heads.length cH,Y aF MM.free.length cF,Y aL MM.locks.length cL,O J MM.now,Y (some ⟨W2.heap.size,0,none⟩) n n]) (Px many buckets n)):=by
   have z1:(W2.setCells w.heap.size 0 [Y aS MM.slots.length cS,Y aH MM.heads.length cH,Y aF MM.free.length cF,Y aL MM.locks.length cL,O J MM.now,Y (some ⟨W2.heap.size,0,none⟩) n n]).heap.size=W2.heap.size:=setCells_size _ _ _
   have hoth:∀ k,k≠w.heap.size->(W2.setCells w.heap.size 0 [Y aS MM.slots.length cS,Y aH MM.heads.length cH,Y aF MM.free.length cF,Y aL MM.locks.length cL,O J MM.now,Y (some ⟨W2.heap.size,0,none⟩) n n]).heap[k]?=W2.heap[k]?:=fun k hk=>Ad hk _ _ _
   have A1:At (W2.setCells w.heap.size 0 [Y aS MM.slots.length cS,Y aH MM.heads.length cH,Y aF MM.free.length cF,Y aL MM.locks.length cL,O J MM.now,Y (some ⟨W2.heap.size,0,none⟩) n n]) aS aH aF aL cS cH cF cL MM:=HA2.out.off HHi.out (g:=w.heap.size) (by omega) hoth
   have A2:At (((W2.setCells w.heap.size 0 [Y aS MM.slots.length cS,Y aH MM.heads.length cH,Y aF MM.free.length cF,Y aL MM.locks.length cL,O J MM.now,Y (some ⟨W2.heap.size,0,none⟩) n n]).alloc (.cells X 49)).drew) aS aH aF aL cS cH cF cL MM:=A1.below (Um (A7 _ _))
   have hR:=newRow (W2.setCells w.heap.size 0 [Y aS MM.slots.length cS,Y aH MM.heads.length cH,Y aF MM.free.length cF,Y aL MM.locks.length cL,O J MM.now,Y (some ⟨W2.heap.size,0,none⟩) n n]) X n HX.out hn5.2
   rw[z1] at hR
   refine⟨aS,aH,aF,aL,cS,cH,cF,cL,some ⟨W2.heap.size,0,none⟩,n,List.replicate n (idle,Nc),?_,?_,HHi.out.mono (by omega),?_,hR,⟨?_,fun p hp ad e=>?_,fun p hp ad e=>?_⟩⟩
   ·show _=Value.agg #[Y aS (L6 many buckets).slots.length cS,Y aH (L6 many buckets).heads.length cH,Y aF (L6 many buckets).free.length cF,Y aL (L6 many buckets).locks.length cL,O J (L6 many buckets).now,Y _ (List.replicate n idle).length n]
    rw[<- HMM.out,List.length_replicate]
   ·show At _ aS aH aF aL cS cH cF cL (L6 many buckets)
    rw[<- HMM.out];exact A2
   ·show List.replicate n idle=_
    rw[List.map_replicate]
   ·rintro ad ⟨⟩
    exact Nat.le_of_lt hlw
   ·rw[List.eq_of_mem_replicate hp] at e;cases e
   ·rw[List.eq_of_mem_replicate hp] at e;cases e
  have HZ5:Hid ((((W2.setCells w.heap.size 0 [Y aS MM.slots.length cS,Y aH MM.heads.length cH,Y aF MM.free.length cF,Y aL MM.locks.length cL,O J MM.now,Y (some ⟨W2.heap.size,0,none⟩) n n]).alloc (.cells X 49)).drew).heap[w.heap.size]?=some (.cells #[Y aS MM.slots.length cS,Y aH MM.heads.length cH,Y aF MM.free.length cF,Y aL MM.locks.length cL,O J MM.now,Y (some ⟨W2.heap.size,0,none⟩) n n] 28 (0,0))):=(Below.heap_alloc _ _ _ (by rw[setCells_size];exact hlw)).trans (Bi HZ2.out rfl)
  have b5:Below w.heap.size w (((W2.setCells w.heap.size 0 [Y aS MM.slots.length cS,Y aH MM.heads.length cH,Y aF MM.free.length cF,Y aL MM.locks.length cL,O J MM.now,Y (some ⟨W2.heap.size,0,none⟩) n n]).alloc (.cells X 49)).drew):=Um ((Aw b2 (Nat.le_refl _)).alloc (by rw[setCells_size];exact Nat.le_of_lt hlw) _)
  simp only[World.setCells,Nat.zero_add,Nat.reduceAdd] at HAns HZ5 b5
  go_wp2_with fail
  go_region
  generalize World.drew _=W5 at *
  clear y0 y1 y2 y3 y4 y5 ys g0 g1 g2 g3 g4 g5 q0 q1 q2 q3 q4
  obtain⟨r0,r1,r2,r3,r4,r5,rs⟩:=Bc HZ5.out
  go_wp2
  refine bodyPost_ret (v:=.tuple #[.agg #[Y aS MM.slots.length cS,Y aH MM.heads.length cH,Y aF MM.free.length cF,Y aL MM.locks.length cL,O J MM.now,Y (some ⟨W2.heap.size,0,none⟩) n n],O J 0]) (by simp[results,Tryz.results16,go_sem,r0,r1,r2,r3,r4,r5]) rfl ?_
  refine⟨_,by rw[HE0.out],?_,b5⟩
  rw[HE0.out,if_pos rfl]
  exact HAns.out
theorem Zk(many buckets tasks:Int)(w:Wq):Calls Pg 16 #[O J many,O J buckets,O J tasks] w (b3a w many buckets tasks):=by
 by_cases h:Wx many buckets=0
 ·have h':inB many 0 12=true/\inB buckets 1 4=true:=by
   unfold Wx at h
   cases h1:inB many 0 12 <;> cases h2:inB buckets 1 4 <;> simp[h1,h2] at h ⊢
  rw[Aj,Aj] at h'
  obtain⟨m,rfl⟩:∃ m:Nat,many=m:=⟨many.toNat,(Int.toNat_of_nonneg h'.1.1).symm⟩
  obtain⟨b,rfl⟩:∃ b:Nat,buckets=b:=⟨buckets.toNat,(Int.toNat_of_nonneg (by omega)).symm⟩
  exact b1k m b tasks w (by omega) (by omega) (by omega)
 ·refine a8h many buckets tasks w ?_
  unfold Wx at h ⊢
  split at h
  ·exact absurd rfl h
  ·rename_i h2;rw[if_neg h2]
end
section
open Go.Maps
theorem pastf{w:Wq}{B:Nat}{v0 v1 v2 v3 v4 v5 v6 v7 v8 v9 v10 v11 v12:Value}{t:TypeId}(h:w.heap[B]?=some (.cells #[v0,v1,v2,v3,v4,v5,v6,v7,v8,v9,v10,v11,v12] t (0,0))) :
  w.cell? ⟨B,0,none⟩=some v0/\w.cell? ⟨B,1,none⟩=some v1/\w.cell? ⟨B,2,none⟩=some v2/\w.cell? ⟨B,3,none⟩=some v3/\w.cell? ⟨B,4,none⟩=some v4/\w.cell? ⟨B,5,none⟩=some v5/\w.cell? ⟨B,6,none⟩=some v6/\w.cell? ⟨B,7,none⟩=some v7/\w.cell? ⟨B,8,none⟩=some v8/\w.cell? ⟨B,9,none⟩=some v9/\w.cell? ⟨B,10,none⟩=some v10/\w.cell? ⟨B,11,none⟩=some v11/\w.cell? ⟨B,12,none⟩=some v12/\B<w.heap.size :=
 ⟨by rw[cell_of_block h];rfl,by rw[cell_of_block h];rfl,by rw[cell_of_block h];rfl,by rw[cell_of_block h];rfl,by rw[cell_of_block h];rfl,by rw[cell_of_block h];rfl,by rw[cell_of_block h];rfl,by rw[cell_of_block h];rfl,by rw[cell_of_block h];rfl,by rw[cell_of_block h];rfl,by rw[cell_of_block h];rfl,by rw[cell_of_block h];rfl,by rw[cell_of_block h];rfl,lt_of_block h⟩
def b2v(w:Wq)(f:Fr)(task fro too:Int)(e:Ending)(w':Wq):Prop :=
 ∃ a2 c2,e=.returned (.agg #[O J task,O J f.c.kind,O J f.c.a,O J f.c.b,O J f.c.time,O J f.c.bk,O J f.c.slot,O J fro,O J too,O J f.e,O J f.slot,O J f.n,Y a2 f.keys.length c2])/\Dk w' w.heap.size a2 c2 f.keys/\Below w.heap.size w w'
theorem a9y(f:Fr)(task fro too:Int)(aK:Option Addr)(cK:Nat)(w:Wq)(r:Am w aK cK f.keys) :
  Calls Pg 81 #[.agg #[O J f.c.kind,O J f.c.a,O J f.c.b,O J f.c.time,O J f.c.bk,O J f.c.slot,O J f.pl,O J f.cur,O J f.prev,O J f.slot,O J f.n,Y aK f.keys.length cK,.bool f.done,O J f.e],O J task,O J fro,O J too] w (b2v w f task fro too):=by
 obtain⟨ox,hox⟩:∃ o:Obj,o=.cells #[O J f.c.kind,O J f.c.a,O J f.c.b,O J f.c.time,O J f.c.bk,O J f.c.slot,O J f.pl,O J f.cur,O J f.prev,O J f.slot,O J f.n,Y aK f.keys.length cK,.bool f.done,O J f.e] 47:=⟨_,rfl⟩
 obtain⟨oy,hoy⟩:∃ o:Obj,o=.cells #[O J 0,O J 0,O J 0,O J 0,O J 0,O J 0,O J 0,O J 0,O J 0,O J 0,O J 0,O J 0,Y none 0 0] 78:=⟨_,rfl⟩
 have b0:Below w.heap.size w ((w.alloc ox).alloc oy):=below_alloc2 w ox oy
 have HX0:Hid (((w.alloc ox).alloc oy).heap[w.heap.size]?=some ox):=by show _=_;rw[Below.heap_alloc _ _ _ (by simp),heap_alloc_new]
 have HY0:Hid (((w.alloc ox).alloc oy).heap[w.heap.size+1]?=some oy):=by
  have:=heap_alloc_new (w.alloc ox) oy
  rwa [show (w.alloc ox).heap.size=w.heap.size+1 by simp] at this
 have HK0:Hid (Am ((w.alloc ox).alloc oy) aK cK f.keys):=r.below b0
 have z0:((w.alloc ox).alloc oy).heap.size=w.heap.size+2:=by simp
 clear r
 go_enter Tryz.func81,Tryz.ntmps81
 go_wp2_with fail
 rw[<- hox,<- hoy]
 generalize (w.alloc ox).alloc oy=W0 at *
 subst hox hoy
 obtain⟨f0,f1,f2,f3,f4,f5,f6,f7,f8,f9,f10,f11,f12,f13,ff,fs⟩:=A8 HX0.out
 have HS:Hid (∀ w':Wq,Below W0.heap.size W0 w'->w'.cell? ⟨w.heap.size,0,none⟩=some (O J f.c.kind)/\w'.cell? ⟨w.heap.size,1,none⟩=some (O J f.c.a)/\w'.cell? ⟨w.heap.size,2,none⟩=some (O J f.c.b)/\w'.cell? ⟨w.heap.size,3,none⟩=some (O J f.c.time)/\w'.cell? ⟨w.heap.size,4,none⟩=some (O J f.c.bk)/\w'.cell? ⟨w.heap.size,5,none⟩=some (O J f.c.slot)/\w'.cell? ⟨w.heap.size,6,none⟩=some (O J f.pl)/\w'.cell? ⟨w.heap.size,7,none⟩=some (O J f.cur)/\w'.cell? ⟨w.heap.size,8,none⟩=some (O J f.prev)/\w'.cell? ⟨w.heap.size,9,none⟩=some (O J f.slot)/\w'.cell? ⟨w.heap.size,10,none⟩=some (O J f.n)/\w'.cell? ⟨w.heap.size,11,none⟩=some (Y aK f.keys.length cK)/\w'.cell? ⟨w.heap.size,12,none⟩=some (.bool f.done)/\w'.cell? ⟨w.heap.size,13,none⟩=some (O J f.e)):=fun w' hb=>⟨((Bv hb).1 _ _ fs).trans f0,((Bv hb).1 _ _ fs).trans f1,((Bv hb).1 _ _ fs).trans f2,((Bv hb).1 _ _ fs).trans f3,((Bv hb).1 _ _ fs).trans f4,((Bv hb).1 _ _ fs).trans f5,((Bv hb).1 _ _ fs).trans f6,((Bv hb).1 _ _ fs).trans f7,((Bv hb).1 _ _ fs).trans f8,((Bv hb).1 _ _ fs).trans f9,((Bv hb).1 _ _ fs).trans f10,((Bv hb).1 _ _ fs).trans f11,((Bv hb).1 _ _ fs).trans f12,((Bv hb).1 _ _ fs).trans f13⟩
 have HS3:Hid (∀ w2:Wq,Below W0.heap.size W0 w2->∀ w':Wq,(∀ k,k≠w.heap.size+1->w'.heap[k]?=w2.heap[k]?)->w'.cell? ⟨w.heap.size,0,none⟩=some (O J f.c.kind)/\w'.cell? ⟨w.heap.size,1,none⟩=some (O J f.c.a)/\w'.cell? ⟨w.heap.size,2,none⟩=some (O J f.c.b)/\w'.cell? ⟨w.heap.size,3,none⟩=some (O J f.c.time)/\w'.cell? ⟨w.heap.size,4,none⟩=some (O J f.c.bk)/\w'.cell? ⟨w.heap.size,5,none⟩=some (O J f.c.slot)/\w'.cell? ⟨w.heap.size,6,none⟩=some (O J f.pl)/\w'.cell? ⟨w.heap.size,7,none⟩=some (O J f.cur)/\w'.cell? ⟨w.heap.size,8,none⟩=some (O J f.prev)/\w'.cell? ⟨w.heap.size,9,none⟩=some (O J f.slot)/\w'.cell? ⟨w.heap.size,10,none⟩=some (O J f.n)/\w'.cell? ⟨w.heap.size,11,none⟩=some (Y aK f.keys.length cK)/\w'.cell? ⟨w.heap.size,12,none⟩=some (.bool f.done)/\w'.cell? ⟨w.heap.size,13,none⟩=some (O J f.e)):=fun w2 hb w' hk=>by
  have h:=HS.out w2 hb
  exact⟨(World.cell?_of_block (hk w.heap.size (by omega))).trans h.1,(World.cell?_of_block (hk w.heap.size (by omega))).trans h.2.1,(World.cell?_of_block (hk w.heap.size (by omega))).trans h.2.2.1,(World.cell?_of_block (hk w.heap.size (by omega))).trans h.2.2.2.1,(World.cell?_of_block (hk w.heap.size (by omega))).trans h.2.2.2.2.1,(World.cell?_of_block (hk w.heap.size (by omega))).trans h.2.2.2.2.2.1,(World.cell?_of_block (hk w.heap.size (by omega))).trans h.2.2.2.2.2.2.1,(World.cell?_of_block (hk w.heap.size (by omega))).trans h.2.2.2.2.2.2.2.1,(World.cell?_of_block (hk w.heap.size (by omega))).trans h.2.2.2.2.2.2.2.2.1,(World.cell?_of_block (hk w.heap.size (by omega))).trans h.2.2.2.2.2.2.2.2.2.1,(World.cell?_of_block (hk w.heap.size (by omega))).trans h.2.2.2.2.2.2.2.2.2.2.1,(World.cell?_of_block (hk w.heap.size (by omega))).trans h.2.2.2.2.2.2.2.2.2.2.2.1,(World.cell?_of_block (hk w.heap.size (by omega))).trans h.2.2.2.2.2.2.2.2.2.2.2.2.1,(World.cell?_of_block (hk w.heap.size (by omega))).trans h.2.2.2.2.2.2.2.2.2.2.2.2.2⟩
 have HL:Hid (∀ W:Wq,Below W0.heap.size W0 W->Calls Pg 104 #[Y aK f.keys.length cK] W fun e w'=>∃ a c,e=.returned (Y a f.keys.length c)/\Dk w' W.heap.size a c f.keys/\Below W.heap.size W w'):=fun W hb=>Sv aK cK f.keys W (HK0.out.below hb)
 have hz:W0.heap.size=w.heap.size+2:=z0
 have Hz:Hid (W0.heap.size=w.heap.size+2):=z0
 clear z0 hz ff
 go_region_held3 (fun w'=>w'.cell? ⟨w.heap.size,0,none⟩=some (O J f.c.kind)/\w'.cell? ⟨w.heap.size,1,none⟩=some (O J f.c.a)/\w'.cell? ⟨w.heap.size,2,none⟩=some (O J f.c.b)/\w'.cell? ⟨w.heap.size,3,none⟩=some (O J f.c.time)/\w'.cell? ⟨w.heap.size,4,none⟩=some (O J f.c.bk)/\w'.cell? ⟨w.heap.size,5,none⟩=some (O J f.c.slot)/\w'.cell? ⟨w.heap.size,6,none⟩=some (O J f.pl)/\w'.cell? ⟨w.heap.size,7,none⟩=some (O J f.cur)/\w'.cell? ⟨w.heap.size,8,none⟩=some (O J f.prev)/\w'.cell? ⟨w.heap.size,9,none⟩=some (O J f.slot)/\w'.cell? ⟨w.heap.size,10,none⟩=some (O J f.n)/\w'.cell? ⟨w.heap.size,11,none⟩=some (Y aK f.keys.length cK)/\w'.cell? ⟨w.heap.size,12,none⟩=some (.bool f.done)/\w'.cell? ⟨w.heap.size,13,none⟩=some (O J f.e)) (first|(refine HS4.out _ (fun k hk=>?_);iterate 13 rw[Below.heap_setCell _ _ _ _ (by dsimp only;exact hk)])|exact HS.out _ HB2.out|exact HS.out _ ⟨rfl,rfl,rfl,Nat.le_refl _,fun _ _=>rfl⟩) (first|(go_at_call 104;refine(HL.out _ (by exact⟨rfl,rfl,rfl,Nat.le_refl _,fun _ _=>rfl⟩)).mono ?_;rintro e w2 ⟨a2,c2,rfl,ho2,hb2⟩;have HO2:Hid (Dk w2 W0.heap.size a2 c2 f.keys):=ho2;have HB2:Hid (Below W0.heap.size W0 w2):=⟨hb2.os,hb2.tape,hb2.output,hb2.size,hb2.block⟩;have HY2:Hid (w2.heap[w.heap.size+1]?=_):=(HB2.out.block _ (lt_of_block HY0.out)).trans HY0.out;obtain⟨y0,y1,y2,y3,y4,y5,y6,y7,y8,y9,y10,y11,y12,ys⟩:=pastf HY2.out;have hfz:=fun j=>unfrozen_of_block HY2.out j;have HS4:Hid (∀ w':Wq,(∀ k,k≠w.heap.size+1->w'.heap[k]?=w2.heap[k]?)->w'.cell? ⟨w.heap.size,0,none⟩=some (O J f.c.kind)/\w'.cell? ⟨w.heap.size,1,none⟩=some (O J f.c.a)/\w'.cell? ⟨w.heap.size,2,none⟩=some (O J f.c.b)/\w'.cell? ⟨w.heap.size,3,none⟩=some (O J f.c.time)/\w'.cell? ⟨w.heap.size,4,none⟩=some (O J f.c.bk)/\w'.cell? ⟨w.heap.size,5,none⟩=some (O J f.c.slot)/\w'.cell? ⟨w.heap.size,6,none⟩=some (O J f.pl)/\w'.cell? ⟨w.heap.size,7,none⟩=some (O J f.cur)/\w'.cell? ⟨w.heap.size,8,none⟩=some (O J f.prev)/\w'.cell? ⟨w.heap.size,9,none⟩=some (O J f.slot)/\w'.cell? ⟨w.heap.size,10,none⟩=some (O J f.n)/\w'.cell? ⟨w.heap.size,11,none⟩=some (Y aK f.keys.length cK)/\w'.cell? ⟨w.heap.size,12,none⟩=some (.bool f.done)/\w'.cell? ⟨w.heap.size,13,none⟩=some (O J f.e)):=HS3.out w2 HB2.out;clear ho2 hb2))
 all_goals
  have HB4:Hid ((w2.setCells (w.heap.size+1) 0 [O J task,O J f.c.kind,O J f.c.a,O J f.c.b,O J f.c.time,O J f.c.bk,O J f.c.slot,O J fro,O J too,O J f.e,O J f.slot,O J f.n,Y a2 f.keys.length c2]).heap[w.heap.size+1]?=some (.cells #[O J task,O J f.c.kind,O J f.c.a,O J f.c.b,O J f.c.time,O J f.c.bk,O J f.c.slot,O J fro,O J too,O J f.e,O J f.slot,O J f.n,Y a2 f.keys.length c2] 78 (0,0))):=Bi HY2.out rfl
  have HK4:Hid (Dk (w2.setCells (w.heap.size+1) 0 [O J task,O J f.c.kind,O J f.c.a,O J f.c.b,O J f.c.time,O J f.c.bk,O J f.c.slot,O J fro,O J too,O J f.e,O J f.slot,O J f.n,Y a2 f.keys.length c2]) w.heap.size a2 c2 f.keys):=(HO2.out.same fun ad e=>Ad (by have:=(HO2.out.lt ad e).1;have:=Hz.out;omega) _ _ _).le (by have:=Hz.out;omega)
  have b4:Below w.heap.size w (w2.setCells (w.heap.size+1) 0 [O J task,O J f.c.kind,O J f.c.a,O J f.c.b,O J f.c.time,O J f.c.bk,O J f.c.slot,O J fro,O J too,O J f.e,O J f.slot,O J f.n,Y a2 f.keys.length c2]):=Aw (b0.trans (HB2.out.mono b0.size)) (by omega)
  simp only[World.setCells,Nat.zero_add,Nat.reduceAdd] at HB4 HK4 b4
  clear y0 y1 y2 y3 y4 y5 y6 y7 y8 y9 y10 y11 y12 ys hfz f0 f1 f2 f3 f4 f5 f6 f7 f8 f9 f10 f11 f12 f13 fs HS4 HS3 HS HL HY2 HO2 HB2
  go_wp2
  exact bodyPost_ret (results_cell_row Tryz.results81 _ _ (w.heap.size+1) 78 _ (0,0) _ rfl HB4.out Tryz.underlying78 rfl (by kernel_rfl)) rfl ⟨a2,c2,rfl,HK4.out,b4⟩
end
section
open Go.Maps
structure Jz(w:Wq)(ao:Option Addr)(cap:Nat)(l:List Pk):Prop where
 le:l.length<=cap
 max:l.length*64<=140737488355328
 nil:ao=none->cap=0
 at_:l.length=0\/∃ b o,ao=some ⟨b,o,none⟩/\∀ i (h:i<l.length),w.rangeAt b (o+i*9) [O J (l[i]).task,.bool (l[i]).step,.bool (l[i]).tick,O J ((l[i]).c).kind,O J ((l[i]).c).a,O J ((l[i]).c).b,O J ((l[i]).c).time,O J ((l[i]).c).bk,O J ((l[i]).c).slot]
theorem Jz.below{w w':Wq}{ao:Option Addr}{cap:Nat}{l:List Pk}(r:Jz w ao cap l)(hb:Below w.heap.size w w'):Jz w' ao cap l:=by
 refine⟨r.le,r.max,r.nil,?_⟩
 rcases r.at_ with h|⟨b,o,h,hc⟩
 ·exact .inl h
 ·refine .inr ⟨b,o,h,fun i hi=>?_⟩
  have h0:=hc i hi 0 _ rfl
  exact Dp (hc i hi) hb (cell_lt h0)
end
end Go.Proofs.YthhgoenomehobaaGreat.mm
