/- Parts. -/
import Derived.Test.YthhgoenomehobaaGreatP23
namespace Go.Proofs.YthhgoenomehobaaGreat.mm
set_option maxRecDepth 100000
set_option linter.unusedVariables false
open Go.Value renaming int → O, slice → Y
open Go.IntKind renaming i64 → J
open Go.Proofs.Tryz renaming prog → Pg
open Go renaming World → Wq
open Go.ChangeShapes Go.WideShapes Go.ChangeAt Go.RowKit Go.Joins Go.Deep Go.Sort
set_option maxHeartbeats 6400000
section
variable {Xb:Ex}
theorem Jr(t:Int)(M:Mm)(f:Fr)(B lo:Nat)(aS aH aF aL:Option Addr)(cS cH cF cL:Nat)(aK:Option Addr)(cK:Nat)(w:Wq)
  (m:Mine Xb w B lo aS aH aF aL cS cH cF cL M) (hd:f.done=false) {R:Ending->Wq->Prop} {n:Nat} {ar:Array Value}
  (hn:f.pl=0/\n=181/\ar=#[.pointer (some ⟨B,0,none⟩),.agg #[O J f.c.kind,O J f.c.a,O J f.c.b,O J f.c.time,O J f.c.bk,O J f.c.slot,O J f.pl,O J f.cur,O J f.prev,O J f.slot,O J f.n,Y aK f.keys.length cK,.bool f.done,O J f.e],O J t]\/f.pl=1/\n=182/\ar=#[.pointer (some ⟨B,0,none⟩),.agg #[O J f.c.kind,O J f.c.a,O J f.c.b,O J f.c.time,O J f.c.bk,O J f.c.slot,O J f.pl,O J f.cur,O J f.prev,O J f.slot,O J f.n,Y aK f.keys.length cK,.bool f.done,O J f.e]]\/f.pl=2/\n=183/\ar=#[.pointer (some ⟨B,0,none⟩),.agg #[O J f.c.kind,O J f.c.a,O J f.c.b,O J f.c.time,O J f.c.bk,O J f.c.slot,O J f.pl,O J f.cur,O J f.prev,O J f.slot,O J f.n,Y aK f.keys.length cK,.bool f.done,O J f.e]]\/f.pl=3/\n=184/\ar=#[.pointer (some ⟨B,0,none⟩),.agg #[O J f.c.kind,O J f.c.a,O J f.c.b,O J f.c.time,O J f.c.bk,O J f.c.slot,O J f.pl,O J f.cur,O J f.prev,O J f.slot,O J f.n,Y aK f.keys.length cK,.bool f.done,O J f.e]]\/f.pl=4/\n=185/\ar=#[.pointer (some ⟨B,0,none⟩),.agg #[O J f.c.kind,O J f.c.a,O J f.c.b,O J f.c.time,O J f.c.bk,O J f.c.slot,O J f.pl,O J f.cur,O J f.prev,O J f.slot,O J f.n,Y aK f.keys.length cK,.bool f.done,O J f.e]]\/f.pl=5/\n=186/\ar=#[.pointer (some ⟨B,0,none⟩),.agg #[O J f.c.kind,O J f.c.a,O J f.c.b,O J f.c.time,O J f.c.bk,O J f.c.slot,O J f.pl,O J f.cur,O J f.prev,O J f.slot,O J f.n,Y aK f.keys.length cK,.bool f.done,O J f.e],O J t]\/f.pl=6/\n=187/\ar=#[.pointer (some ⟨B,0,none⟩),.agg #[O J f.c.kind,O J f.c.a,O J f.c.b,O J f.c.time,O J f.c.bk,O J f.c.slot,O J f.pl,O J f.cur,O J f.prev,O J f.slot,O J f.n,Y aK f.keys.length cK,.bool f.done,O J f.e]]\/7<=f.pl/\n=188/\ar=#[.agg #[O J f.c.kind,O J f.c.a,O J f.c.b,O J f.c.time,O J f.c.bk,O J f.c.slot,O J f.pl,O J f.cur,O J f.prev,O J f.slot,O J f.n,Y aK f.keys.length cK,.bool f.done,O J f.e]])
  (HP:Hid (∀ W,Lk Xb w W B lo aS aH aF aL cS cH cF cL M f aK cK->Calls Pg n ar W (StQ w R))) :
  Calls Pg 160 #[.pointer (some ⟨B,0,none⟩),.agg #[O J f.c.kind,O J f.c.a,O J f.c.b,O J f.c.time,O J f.c.bk,O J f.c.slot,O J f.pl,O J f.cur,O J f.prev,O J f.slot,O J f.n,Y aK f.keys.length cK,.bool f.done,O J f.e],O J t] w R:=by
 obtain⟨c,pl,cur,prev,slot,nn,keys,done,ee⟩:=f
 dsimp only at hd hn ⊢
 subst hd
 obtain⟨of,hof⟩:∃ o:Obj,o=.cells #[O J c.kind,O J c.a,O J c.b,O J c.time,O J c.bk,O J c.slot,O J pl,O J cur,O J prev,O J slot,O J nn,Y aK keys.length cK,.bool false,O J ee] 47:=⟨_,rfl⟩
 obtain⟨oz,hoz⟩:∃ o:Obj,o=Ae:=⟨_,rfl⟩
 have HE:Hid (Lk Xb w ((w.alloc of).alloc oz) B lo aS aH aF aL cS cH cF cL M ⟨c,pl,cur,prev,slot,nn,keys,false,ee⟩ aK cK):=Lk.first m ⟨c,pl,cur,prev,slot,nn,keys,false,ee⟩ aK cK hof hoz
 unfold Ae at hoz
 have hA:∀ k:Int,k<7->7<=pl->(pl==k)=false:=fun n h h'=>by rw[beq_eq_false_iff_ne];omega
 clear m
 rcases hn with ⟨rfl,rfl,rfl⟩|⟨rfl,rfl,rfl⟩|⟨rfl,rfl,rfl⟩|⟨rfl,rfl,rfl⟩|⟨rfl,rfl,rfl⟩|⟨rfl,rfl,rfl⟩|⟨rfl,rfl,rfl⟩|⟨h7,rfl,rfl⟩
 all_goals
  try (
   have p0:=hA 0 (by decide) h7
   have p1:=hA 1 (by decide) h7
   have p2:=hA 2 (by decide) h7
   have p3:=hA 3 (by decide) h7
   have p4:=hA 4 (by decide) h7
   have p5:=hA 5 (by decide) h7
   have p6:=hA 6 (by decide) h7
   clear h7)
  clear hA
  go_enter Tryz.func160,Tryz.ntmps160
  go_wp2_with fail
  rw[<- hof,<- hoz]
  generalize (w.alloc of).alloc oz=W0 at *
  subst hof hoz
  refine(HP.out _ HE.out).mono ?_
  rintro e w9 ⟨g,a,c9,rfl,t9,b9,hQ⟩
  clear HE HP
  go_wp2_with (refine Bd (f:=g) rfl (.tmp 6) _ rfl rfl rfl t9.out ?_)
  generalize w9.setCells (w.heap.size+1) 0 (g.enc a c9)=W9 at *
  exact bodyPost_ret (results_cell_row Tryz.results160 _ W9 (w.heap.size+1) 47 _ (0,0) _ rfl b9.out Tryz.underlying47 rfl (by kernel_rfl)) rfl hQ.out
theorem Jc(t:Int)(M:Mm)(f:Fr)(B lo:Nat)(aS aH aF aL:Option Addr)(cS cH cF cL:Nat)(aK:Option Addr)(cK:Nat)(w:Wq)
  (m:Mine Xb w B lo aS aH aF aL cS cH cF cL M) (hd:f.done=false) {R:Ending->Wq->Prop} {n:Nat} {ar:Array Value}
  (hn:f.pl=0/\n=189/\ar=#[.pointer (some ⟨B,0,none⟩),.agg #[O J f.c.kind,O J f.c.a,O J f.c.b,O J f.c.time,O J f.c.bk,O J f.c.slot,O J f.pl,O J f.cur,O J f.prev,O J f.slot,O J f.n,Y aK f.keys.length cK,.bool f.done,O J f.e],O J t]\/f.pl=1/\n=190/\ar=#[.pointer (some ⟨B,0,none⟩),.agg #[O J f.c.kind,O J f.c.a,O J f.c.b,O J f.c.time,O J f.c.bk,O J f.c.slot,O J f.pl,O J f.cur,O J f.prev,O J f.slot,O J f.n,Y aK f.keys.length cK,.bool f.done,O J f.e]]\/f.pl=2/\n=191/\ar=#[.pointer (some ⟨B,0,none⟩),.agg #[O J f.c.kind,O J f.c.a,O J f.c.b,O J f.c.time,O J f.c.bk,O J f.c.slot,O J f.pl,O J f.cur,O J f.prev,O J f.slot,O J f.n,Y aK f.keys.length cK,.bool f.done,O J f.e]]\/f.pl=3/\n=192/\ar=#[.pointer (some ⟨B,0,none⟩),.agg #[O J f.c.kind,O J f.c.a,O J f.c.b,O J f.c.time,O J f.c.bk,O J f.c.slot,O J f.pl,O J f.cur,O J f.prev,O J f.slot,O J f.n,Y aK f.keys.length cK,.bool f.done,O J f.e]]\/f.pl=4/\n=193/\ar=#[.pointer (some ⟨B,0,none⟩),.agg #[O J f.c.kind,O J f.c.a,O J f.c.b,O J f.c.time,O J f.c.bk,O J f.c.slot,O J f.pl,O J f.cur,O J f.prev,O J f.slot,O J f.n,Y aK f.keys.length cK,.bool f.done,O J f.e]]\/f.pl=5/\n=194/\ar=#[.pointer (some ⟨B,0,none⟩),.agg #[O J f.c.kind,O J f.c.a,O J f.c.b,O J f.c.time,O J f.c.bk,O J f.c.slot,O J f.pl,O J f.cur,O J f.prev,O J f.slot,O J f.n,Y aK f.keys.length cK,.bool f.done,O J f.e]]\/f.pl=6/\n=195/\ar=#[.pointer (some ⟨B,0,none⟩),.agg #[O J f.c.kind,O J f.c.a,O J f.c.b,O J f.c.time,O J f.c.bk,O J f.c.slot,O J f.pl,O J f.cur,O J f.prev,O J f.slot,O J f.n,Y aK f.keys.length cK,.bool f.done,O J f.e],O J t]\/7<=f.pl/\n=196/\ar=#[.agg #[O J f.c.kind,O J f.c.a,O J f.c.b,O J f.c.time,O J f.c.bk,O J f.c.slot,O J f.pl,O J f.cur,O J f.prev,O J f.slot,O J f.n,Y aK f.keys.length cK,.bool f.done,O J f.e]])
  (HP:Hid (∀ W,Lk Xb w W B lo aS aH aF aL cS cH cF cL M f aK cK->Calls Pg n ar W (StQ w R))) :
  Calls Pg 161 #[.pointer (some ⟨B,0,none⟩),.agg #[O J f.c.kind,O J f.c.a,O J f.c.b,O J f.c.time,O J f.c.bk,O J f.c.slot,O J f.pl,O J f.cur,O J f.prev,O J f.slot,O J f.n,Y aK f.keys.length cK,.bool f.done,O J f.e],O J t] w R:=by
 obtain⟨c,pl,cur,prev,slot,nn,keys,done,ee⟩:=f
 dsimp only at hd hn ⊢
 subst hd
 obtain⟨of,hof⟩:∃ o:Obj,o=.cells #[O J c.kind,O J c.a,O J c.b,O J c.time,O J c.bk,O J c.slot,O J pl,O J cur,O J prev,O J slot,O J nn,Y aK keys.length cK,.bool false,O J ee] 47:=⟨_,rfl⟩
 obtain⟨oz,hoz⟩:∃ o:Obj,o=Ae:=⟨_,rfl⟩
 have HE:Hid (Lk Xb w ((w.alloc of).alloc oz) B lo aS aH aF aL cS cH cF cL M ⟨c,pl,cur,prev,slot,nn,keys,false,ee⟩ aK cK):=Lk.first m ⟨c,pl,cur,prev,slot,nn,keys,false,ee⟩ aK cK hof hoz
 unfold Ae at hoz
 have hA:∀ k:Int,k<7->7<=pl->(pl==k)=false:=fun n h h'=>by rw[beq_eq_false_iff_ne];omega
 clear m
 rcases hn with ⟨rfl,rfl,rfl⟩|⟨rfl,rfl,rfl⟩|⟨rfl,rfl,rfl⟩|⟨rfl,rfl,rfl⟩|⟨rfl,rfl,rfl⟩|⟨rfl,rfl,rfl⟩|⟨rfl,rfl,rfl⟩|⟨h7,rfl,rfl⟩
 all_goals
  try (
   have p0:=hA 0 (by decide) h7
   have p1:=hA 1 (by decide) h7
   have p2:=hA 2 (by decide) h7
   have p3:=hA 3 (by decide) h7
   have p4:=hA 4 (by decide) h7
   have p5:=hA 5 (by decide) h7
   have p6:=hA 6 (by decide) h7
   clear h7)
  clear hA
  go_enter Tryz.func161,Tryz.ntmps161
  go_wp2_with fail
  rw[<- hof,<- hoz]
  generalize (w.alloc of).alloc oz=W0 at *
  subst hof hoz
  refine(HP.out _ HE.out).mono ?_
  rintro e w9 ⟨g,a,c9,rfl,t9,b9,hQ⟩
  clear HE HP
  go_wp2_with (refine Bd (f:=g) rfl (.tmp 6) _ rfl rfl rfl t9.out ?_)
  generalize w9.setCells (w.heap.size+1) 0 (g.enc a c9)=W9 at *
  exact bodyPost_ret (results_cell_row Tryz.results161 _ W9 (w.heap.size+1) 47 _ (0,0) _ rfl b9.out Tryz.underlying47 rfl (by kernel_rfl)) rfl hQ.out
end
end Go.Proofs.YthhgoenomehobaaGreat.mm
