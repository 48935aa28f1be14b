/- Parts. -/
import Derived.Test.YthhgoenomehobaaGreatP05
namespace Go.Proofs.YthhgoenomehobaaGreat.mm
open Go renaming plainElem → bU, World → Wq
open Tryz
set_option maxRecDepth 100000
set_option linter.unusedVariables false
open Tryz renaming prog → Pg
open ChangeShapes WideShapes ChangeAt RowKit Maps
variable {w w':Wq}{g n:Nat}{l:List Int}(a b:Int){H:Type}{v:Value}{z:DataW H × List MemPlace}{D:DataW Unit}{x:Int}
theorem Ug(w:Wq) :
  Calls Pg 109 #[.agg #[.int .i64 a,.int .i64 b]] w fun e w'=>e=.returned (.bool (Ei a b))/\Below w.heap.size w w':=by
 cases h:Ei a b
 ·have hc:a<0\/(0<=a/\15<a)\/(0<=a/\a<=15/\b<0)\/(0<=a/\a<=15/\0<=b/\15<b):=by
   have:¬ ((0<=a/\a<=15)/\(0<=b/\b<=15)):=fun hh=>by rw[(L6 a b).2 hh] at h;cases h
   omega
  clear h
  rcases hc with h|⟨h1,h2⟩|⟨h1,h2,h3⟩|⟨h1,h2,h3,h4⟩
  rotate_left 3
  ·have hd:decide (b<=15)=false:=by simp;omega
   go_enter func109,ntmps109
   go_wp2
   go_ret
   exact⟨rfl,A7 _ _⟩
  all_goals
   go_enter func109,ntmps109
   go_wp2
   go_ret
   exact⟨rfl,A7 _ _⟩
 ·obtain⟨⟨h0,h1⟩,h2,h3⟩:=(L6 a b).1 h
  clear h
  go_enter func109,ntmps109
  go_wp2
  go_ret
  exact⟨rfl,A7 _ _⟩
theorem law3:Keyed Pg 3:=int_keyed underlying3
theorem zero4(w:Wq):(zeroValue 4).run Pg w=.ok (.bool false) w:=by kernel_rfl
theorem a2l:Pg.underlying 155=some (.map 3 4):=by kernel_rfl
theorem Rk(h:bU Pg 4 v=some z):∃ x,v=.bool x/\z=(.lit (.bool x),[]):=by
 unfold bU at h
 rw[underlying4] at h
 cases v <;> simp at h
 exact⟨_,rfl,h.symm⟩
def Hw(w:Wq)(g:Nat)(l:List Int):Prop :=
 ∃ n,n<=l.length/\∃ D:DataW Unit,w.ownsMap Pg 3 (bU Pg 4) g n D/\∀ x:Int,D.atKey (.int .i64 x) (.lit (.bool false))=.lit (.bool (hasB l x))
theorem Hw.made(w:Wq):Hw (w.alloc (.map #[] 0)) w.heap.size [] :=
 ⟨0,Nat.le_refl _,_,World.ownsMap_made w Pg 3 _,fun x=>by simp[hasB,DataW.atKey]⟩
theorem Hw.kept(h:Hw w g l)(hb:w'.heap[g]?=w.heap[g]?):Hw w' g l:=by
 obtain⟨n,hn,D,⟨es,qX,hg,F,hs,hD⟩,jc⟩:=h
 exact⟨n,hn,D,⟨es,qX,hb.trans hg,F,hs,hD⟩,jc⟩
theorem Hw.lt(h:Hw w g l):g<w.heap.size:=by
 obtain⟨n,hn,D,⟨es,qX,hg,F,hs,hD⟩,jc⟩:=h
 exact lt_of_block hg
theorem Hw.look(h:Hw w g l){x:Int}(hx:(Lit.int .i64 x).wf=true):(Instr.lookup 155 (.map (some g)) (.int .i64 x) false).run Pg w=.ok (.bool (hasB l x)) w:=by
 obtain⟨n,hn,D,ho,jc⟩:=h
 obtain⟨v,ps,yf,hv⟩:=ho.lookup law3 a2l (zero4 w) (plainElem_bool underlying4 false) (keyOf_int_mk underlying3 hx)
 rw[jc x] at hv
 obtain⟨y,rfl,hz⟩:=Rk hv
 rw[yf]
 injection hz with h1 h2
 injection h1 with h1
 injection h1 with h1
 rw[h1]
theorem wf64(h0:-9223372036854775808<=x)(h1:x<=9223372036854775807):(Lit.int .i64 x).wf=true:=by
 have e1:IntKind.i64.min=-9223372036854775808:=by decide
 have e2:IntKind.i64.max=9223372036854775807:=by decide
 simp[Lit.wf,e1,e2]
 omega
theorem Hw.put(hn:n<=l.length)(ho:w.ownsMap Pg 3 (bU Pg 4) g n D)(jc:∀ x:Int,D.atKey (.int .i64 x) (.lit (.bool false))=.lit (.bool (hasB l x)))(h:w'.ownsMap Pg 3 (bU Pg 4) g (n+1) (D.put (.int .i64 x) (.lit (.bool true)))):Hw w' g (l ++ [x]):=by
 refine⟨n+1,by simp;omega,_,h,fun y=>?_⟩
 by_cases e:y=x
 ·subst e
  rw[atKey_put_same (ho.tidy law3).isMap (by simp[WideAt.IsKeyLit])]
  simp[hasB]
 ·rw[atKey_put_other (by intro hh;injection hh with _ hh;exact e hh),jc y]
  simp[hasB,e]
end Go.Proofs.YthhgoenomehobaaGreat.mm
