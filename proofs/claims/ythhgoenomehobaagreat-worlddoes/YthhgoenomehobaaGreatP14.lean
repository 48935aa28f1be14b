/- Parts. -/
import Derived.Test.YthhgoenomehobaaGreatP10
import Derived.Test.YthhgoenomehobaaGreatP13
import Derived.Deep.QuietTactic
import Derived.BigQuiet
import Derived.Lib.QuietBelow
import Derived.Test.YthhgoenomehobaaGreatP08
namespace Go.Proofs.YthhgoenomehobaaGreat.mm
set_option maxRecDepth 100000
set_option linter.unusedVariables false
open Go.Value renaming int → O, slice → Y
open Go.IntKind renaming i64 → J
open Go.Proofs.Tryz renaming prog → Pg
open Go renaming World → Wq
open Go.ChangeShapes Go.WideShapes Go.ChangeAt Go.RowKit Go.Joins
section
open Go.Deep Go.Sort
variable {Xb:Ex}
theorem Lk.two{w w1:Wq}{B lo:Nat}{aS aH aF aL:Option Addr}{cS cH cF cL:Nat}{M:Mm}{f:Fr}{aK:Option Addr}{cK:Nat}(h:Lk Xb w w1 B lo aS aH aF aL cS cH cF cL M f aK cK):Lk2 Xb w w1 (Ac B aS aH aF aL) B lo M f aK cK :=
 ⟨h.lt,.of_below _ h.bl,⟨_,_,_,_,_,_,_,_,h.m,fun k hk=>.inl hk⟩,h.fb,h.zb⟩
theorem Yj{w w9:Wq}{o:Obj}(hb:Below ((w.alloc o).alloc Ae).heap.size ((w.alloc o).alloc Ae) w9):Below w.heap.size w w9/\w9.heap[w.heap.size+1]?=some Ae:=by
 have h0:((w.alloc o).alloc Ae).heap[w.heap.size+1]?=some Ae:=by
  have:=heap_alloc_new (w.alloc o) Ae
  simpa using this
 exact⟨(below_alloc2 w o Ae).trans (hb.mono (below_alloc2 w o Ae).size),(hb.block _ (lt_of_block h0)).trans h0⟩
theorem Vf(f:Fr)(aK:Option Addr)(cK:Nat)(w:Wq) :
  Calls Pg 180 #[.agg #[O J f.c.kind,O J f.c.a,O J f.c.b,O J f.c.time,O J f.c.bk,O J f.c.slot,O J f.pl,O J f.cur,O J f.prev,O J f.slot,O J f.n,Y aK f.keys.length cK,.bool f.done,O J f.e]] w fun e w'=>e=.returned (.agg #[O J (Cc f).c.kind,O J (Cc f).c.a,O J (Cc f).c.b,O J (Cc f).c.time,O J (Cc f).c.bk,O J (Cc f).c.slot,O J (Cc f).pl,O J (Cc f).cur,O J (Cc f).prev,O J (Cc f).slot,O J (Cc f).n,Y aK (Cc f).keys.length cK,.bool (Cc f).done,O J (Cc f).e])/\Below w.heap.size w w':=by
 go_enter Tryz.func180,Tryz.ntmps180
 go_wp2_with fail
 refine(Gn { f with e:=8 } 7 aK cK _).mono ?_
 rintro e w9 ⟨rfl,hb9⟩
 have HE9:Hid (Below w.heap.size w w9/\w9.heap[w.heap.size+1]?=some Ae):=Yj hb9
 clear hb9
 obtain⟨g0,g1,g2,g3,g4,g5,g6,g7,g8,g9,g10,g11,g12,g13,gf,gs⟩:=A8 HE9.out.2
 go_wp2
 refine bodyPost_ret (v:=.agg #[O J (Cc f).c.kind,O J (Cc f).c.a,O J (Cc f).c.b,O J (Cc f).c.time,O J (Cc f).c.bk,O J (Cc f).c.slot,O J (Cc f).pl,O J (Cc f).cur,O J (Cc f).prev,O J (Cc f).slot,O J (Cc f).n,Y aK (Cc f).keys.length cK,.bool (Cc f).done,O J (Cc f).e]) (by simp[results,Tryz.results180,go_sem,Cc,toF,g0,g1,g2,g3,g4,g5,g6,g7,g8,g9,g10,g11,g12,g13]) rfl ⟨rfl,Zt HE9.out.1⟩
theorem Xu(now time:Int)(w:Wq)(h0:0<=now)(h1:now<=1000000)(h2:1<=time)(h3:time<=1000000) :
  Calls Pg 204 #[O J now,O J time] w fun e w'=>e=.returned (O J (now+time))/\w=w':=by
 have e1:decide (0<time)=true:=by rw[decide_eq_true_iff];omega
 have e2:¬ (2000000 - time<now):=by omega
 have e3:¬ (2000000<now+time):=by omega
 go_enter Tryz.func204,Tryz.ntmps204
 go_wp2
 go_ret
 exact⟨rfl,rfl⟩
end
section
variable {Xb:Ex}
theorem Lk2.toA{w w1 w2:Wq}{Z:Nat->Prop}{B lo:Nat}{M:Mm}{f g:Fr}{aK:Option Addr}{cK:Nat}(h:Lk2 Xb w w1 Z B lo M f aK cK)(hf:Fine w1 w2 (fun k=>k=w.heap.size))(hx:w2.heap[w.heap.size]?=some (.cells #[O J g.c.kind,O J g.c.a,O J g.c.b,O J g.c.time,O J g.c.bk,O J g.c.slot,O J g.pl,O J g.cur,O J g.prev,O J g.slot,O J g.n,Y aK g.keys.length cK,.bool g.done,O J g.e] 47 (0,0))):Lk2 Xb w w2 Z B lo M g aK cK:=by
 obtain⟨aS,aH,aF,aL,cS,cH,cF,cL,m,hz⟩:=h.mine
 refine⟨h.zl,h.fine.trans hf (fun k h1 h2=>by omega),⟨aS,aH,aF,aL,cS,cH,cF,cL,m.same hf.size (fun k h1 h2=>hf.block k h1 ?_),hz⟩,hx,(hf.block _ (lt_of_block h.zb) (by omega)).trans h.zb⟩
 rcases hz k h2 with h3|h3
 ·have:=h.zl k h3;omega
 ·omega
theorem a7v(n:Int)(w:Wq){r:Bool}(h:decide (0<n)=r):Calls Pg 115 #[O J n] w fun e w'=>e=.returned (.bool r)/\w=w':=by
 subst h
 go_enter Tryz.func115,Tryz.ntmps115
 go_wp2
 go_ret
 exact⟨rfl,rfl⟩
end
section
variable {Xb:Ex}
theorem Has.kept{w w':Wq}{B lo:Nat}{Z:Nat->Prop}{M:Mm}(h:Has Xb w B lo Z M)(hb:Below w.heap.size w w'):Has Xb w' B lo (Up w Z) M/\Fine w w' Z :=
 ⟨(h.below hb).mono (fun _ _ hk=>.inl hk),.of_below _ hb⟩
theorem b1d{M:Mm}{s:Int}(h:s<0):Dc M s=false:=by
 cases hx:Dc M s
 ·rfl
 ·have:=(Eg.1 hx).1
  omega
end
end Go.Proofs.YthhgoenomehobaaGreat.mm
