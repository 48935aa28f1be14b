/- Parts. -/
import Derived.Test.YthhgoenomehobaaGreatP04
import Derived.Maps.OwnOps
import Derived.Maps.OwnSet
namespace Go.Proofs.YthhgoenomehobaaGreat.mm
set_option maxRecDepth 100000
set_option linter.unusedVariables false
open Go.Proofs.Tryz renaming prog → Pg
open Go renaming World → Wq
open Go.ChangeShapes Go.WideShapes Go.ChangeAt Go.RowKit Go.Maps
section
theorem Su(a b:Int)(w:Wq) :
  Calls Pg 109 #[.agg #[.int .i64 a,.int .i64 b]] w fun e w'=>e=.returned (.bool (E5 a b))/\Below w.heap.size w w':=by
 cases h:E5 a b
 ·have hc:a<0\/(0<=a/\15<a)\/(0<=a/\a<=15/\b<0)\/(0<=a/\a<=15/\0<=b/\15<b):=by
   have:¬ ((0<=a/\a<=15)/\(0<=b/\b<=15)):=fun hh=>by rw[(Jh a b).2 hh] at h;cases h
   omega
  clear h
  rcases hc with h|⟨h1,h2⟩|⟨h1,h2,h3⟩|⟨h1,h2,h3,h4⟩
  rotate_left 3
  ·have hd:decide (b<=15)=false:=by simp;omega
   go_enter Tryz.func109,Tryz.ntmps109
   go_wp2
   go_ret
   exact⟨rfl,A7 _ _⟩
  all_goals
   go_enter Tryz.func109,Tryz.ntmps109
   go_wp2
   go_ret
   exact⟨rfl,A7 _ _⟩
 ·obtain⟨⟨h0,h1⟩,h2,h3⟩:=(Jh a b).1 h
  clear h
  go_enter Tryz.func109,Tryz.ntmps109
  go_wp2
  go_ret
  exact⟨rfl,A7 _ _⟩
theorem law3:Keyed Pg 3:=int_keyed Tryz.underlying3
theorem zero4(w:Wq):(zeroValue 4).run Pg w=.ok (.bool false) w:=by kernel_rfl
theorem a0g:Pg.underlying 155=some (.map 3 4):=by kernel_rfl
theorem Q5{H:Type}{v:Value}{z:DataW H × List MemPlace}(h:plainElem Pg 4 v=some z):∃ x,v=.bool x/\z=(.lit (.bool x),[]):=by
 unfold plainElem at h
 rw[Tryz.underlying4] at h
 cases v <;> simp at h
 exact⟨_,rfl,h.symm⟩
def H7(w:Wq)(g:Nat)(l:List Int):Prop :=
 ∃ n,n<=l.length/\∃ D:DataW Unit,w.ownsMap Pg 3 (plainElem Pg 4) g n D/\∀ x:Int,D.atKey (.int .i64 x) (.lit (.bool false))=.lit (.bool (hasB l x))
theorem H7.made(w:Wq):H7 (w.alloc (.map #[] 0)) w.heap.size [] :=
 ⟨0,Nat.le_refl _,_,World.ownsMap_made w Pg 3 _,fun x=>by simp[hasB,DataW.atKey]⟩
theorem H7.kept{w w':Wq}{g:Nat}{l:List Int}(h:H7 w g l)(hb:w'.heap[g]?=w.heap[g]?):H7 w' g l:=by
 obtain⟨n,hn,D,⟨es,clock,hg,F,hs,hD⟩,hat⟩:=h
 exact⟨n,hn,D,⟨es,clock,hb.trans hg,F,hs,hD⟩,hat⟩
theorem H7.lt{w:Wq}{g:Nat}{l:List Int}(h:H7 w g l):g<w.heap.size:=by
 obtain⟨n,hn,D,⟨es,clock,hg,F,hs,hD⟩,hat⟩:=h
 exact lt_of_block hg
theorem H7.look{w:Wq}{g:Nat}{l:List Int}(h:H7 w g l){x:Int}(hx:(Lit.int .i64 x).wf=true):(Instr.lookup 155 (.map (some g)) (.int .i64 x) false).run Pg w=.ok (.bool (hasB l x)) w:=by
 obtain⟨n,hn,D,ho,hat⟩:=h
 obtain⟨v,ps,hrun,hv⟩:=ho.lookup law3 a0g (zero4 w) (plainElem_bool Tryz.underlying4 false) (keyOf_int_mk Tryz.underlying3 hx)
 rw[hat x] at hv
 obtain⟨y,rfl,hz⟩:=Q5 hv
 rw[hrun]
 injection hz with h1 h2
 injection h1 with h1
 injection h1 with h1
 rw[h1]
theorem wf64{x:Int}(h0:-9223372036854775808<=x)(h1:x<=9223372036854775807):(Lit.int .i64 x).wf=true:=by
 have e1:IntKind.i64.min=-9223372036854775808:=by decide
 have e2:IntKind.i64.max=9223372036854775807:=by decide
 simp[Lit.wf,e1,e2]
 omega
theorem H7.put{w w':Wq}{g n:Nat}{l:List Int}{D:DataW Unit}{x:Int}(hn:n<=l.length)(ho:w.ownsMap Pg 3 (plainElem Pg 4) g n D)(hat:∀ x:Int,D.atKey (.int .i64 x) (.lit (.bool false))=.lit (.bool (hasB l x)))
  (h:w'.ownsMap Pg 3 (plainElem Pg 4) g (n+1) (D.put (.int .i64 x) (.lit (.bool true)))):H7 w' g (l ++ [x]):=by
 refine⟨n+1,by simp;omega,_,h,fun y=>?_⟩
 by_cases e:y=x
 ·subst e
  rw[atKey_put_same (ho.tidy law3).isMap (by simp[WideAt.IsKeyLit])]
  simp[hasB]
 ·rw[atKey_put_other (by intro hh;injection hh with _ hh;exact e hh),hat y]
  simp[hasB,e]
end
end Go.Proofs.YthhgoenomehobaaGreat.mm
