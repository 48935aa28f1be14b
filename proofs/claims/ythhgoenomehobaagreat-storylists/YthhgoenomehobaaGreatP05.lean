/- Parts. -/
import Derived.Test.YthhgoenomehobaaGreatP03
import Derived.Deep.QuietTactic
import Derived.BigQuiet
import Derived.Test.YthhgoenomehobaaGreatP04
namespace Go.Proofs.YthhgoenomehobaaGreat.mm
set_option maxRecDepth 100000
set_option linter.unusedVariables false
open Go.Value renaming int → O, slice → Y
open Go.IntKind renaming i64 → J
section
open Go.ChangeShapes Go.WideShapes Go.ChangeAt Go.RowKit
def flEq(x y:Fl):Bool:=x.a==y.a && (x.b==y.b && (x.slot==y.slot && x.unt==y.unt))
theorem Ye(x y:Fl):flEq x y=true ↔ x=y:=by
 cases x;cases y;simp[flEq]
theorem a2a(x:Fl):flEq x x=true:=(Ye x x).2 rfl
theorem fequal(x y:Fl)(w:World):(Op.equalIn 10000 61 (.agg #[O J x.a,O J x.b,O J x.slot,O J x.unt]) (.agg #[O J y.a,O J y.b,O J y.slot,O J y.unt])).run Tryz.prog w=.ok (flEq x y) w:=by
 have u3:=Tryz.underlying3
 have a3:=Tryz.isAgg3
 have z3:=Tryz.sizeOf3
 have a37:=Tryz.isAgg30
 have z37:=Tryz.sizeOf30
 have k9:=Xh
 have hS:Tryz.prog.underlying 61=some (.struct (Tryz.prog.fieldsOf 61)):=by kernel_rfl
 have hp:Tryz.prog.stoodInHeld 61=false:=by kernel_rfl
 rw[show (10000:Nat)=9999+1 from rfl,run_equalIn_agg w 9999 61 _ _ hS hp]
 simp only[Program.fieldsOf,Tryz.underlying61]
 clear hS
 go_simp
 unfold flEq
 by_cases h1:x.a=y.a <;> by_cases h2:x.b=y.b <;> by_cases h3:x.slot=y.slot <;> by_cases h4:x.unt=y.unt <;> simp[h1,h2,h3,h4]
end
section
open Go.ChangeShapes Go.WideShapes Go.ChangeAt Go.RowKit Go.Joins Go.Maps
theorem any_snoc{p:Fl->Bool}{l:List Fl}{k:Nat}(h:k<l.length)(h0:(l.take k).any p=false)(hx:p l[k]=false):(l.take (k+1)).any p=false:=by
 rw[List.take_succ_eq_append_getElem h,List.any_append,h0]
 simp[hx]
theorem any_hit{p:Fl->Bool}{l:List Fl}{k:Nat}(h:k<l.length)(hx:p l[k]=true):l.any p=true :=
 List.any_eq_true.2 ⟨_,List.getElem_mem h,hx⟩
def hasF(l:List Fl)(x:Fl):Bool:=l.any (flEq x)
theorem hasF_iff(l:List Fl)(x:Fl):hasF l x=true ↔ x∈l:=by
 unfold hasF
 rw[List.any_eq_true]
 constructor
 ·rintro ⟨y,hy,h⟩
  rw[Ye] at h
  subst h;exact hy
 ·intro h;exact⟨x,h,a2a x⟩
set_option maxHeartbeats 1600000 in
theorem Zp(ao:Option Addr)(cap:Nat)(l:List Fl)(x:Fl)(w:World)(hbig:l.length<=1000)(hat:FRow w ao cap l) :
  Calls Tryz.prog 77 #[Y ao l.length cap,.agg #[O J x.a,O J x.b,O J x.slot,O J x.unt]] w fun e w'=>∃ i:Int,e=.returned (O J i)/\decide (0<=i)=hasF l x/\Below w.heap.size w w':=by
 have HAT:Hid (FRow w ao cap l):=hat
 clear hat
 have b0:Below w.heap.size w (w.alloc (.cells #[O J x.a,O J x.b,O J x.slot,O J x.unt] 61)):=Aa _ _
 go_enter Tryz.func77,Tryz.ntmps77
 go_wp2
 go_loopw [8] (fun i wr=>∃ k q:Nat,k<=l.length/\i=O J k/\wr=(w.alloc (.cells #[O J x.a,O J x.b,O J x.slot,O J x.unt] 61)).drewN q/\Hid ((l.take k).any (flEq x)=false)) (fun i _=>l.length - (intOf i).toNat)
 case atStart=>exact⟨0,0,Nat.zero_le _,rfl,rfl,by show _=_;simp⟩
 case round =>
  obtain⟨k,q,hk,rfl,rfl,HC⟩:=hrel
  have hbw:Below w.heap.size w ((w.alloc (.cells #[O J x.a,O J x.b,O J x.slot,O J x.unt] 61)).drewN q):=b0.trans ((Fe _ _).mono (by simp))
  by_cases hlt:k<l.length
  ·rcases HAT.out.at_ with h0|⟨bk,ok,rfl,hc⟩
   ·omega
   obtain⟨c0,c1,c2,c3⟩:=hc k hlt
   have lt:=cell_lt c0
   rw[<- (Ee hbw).1 _ _ lt] at c0 c1 c2 c3
   clear hc
   have e0:((w.alloc (.cells #[O J x.a,O J x.b,O J x.slot,O J x.unt] 61)).drewN q).cell? ⟨w.heap.size,0,none⟩=some (O J x.a):=by rw[World.cell?_drewN];simp
   have e1:((w.alloc (.cells #[O J x.a,O J x.b,O J x.slot,O J x.unt] 61)).drewN q).cell? ⟨w.heap.size,1,none⟩=some (O J x.b):=by rw[World.cell?_drewN];simp
   have e2:((w.alloc (.cells #[O J x.a,O J x.b,O J x.slot,O J x.unt] 61)).drewN q).cell? ⟨w.heap.size,2,none⟩=some (O J x.slot):=by rw[World.cell?_drewN];simp
   have e3:((w.alloc (.cells #[O J x.a,O J x.b,O J x.slot,O J x.unt] 61)).drewN q).cell? ⟨w.heap.size,3,none⟩=some (O J x.unt):=by rw[World.cell?_drewN];simp
   generalize hwq:(w.alloc (.cells #[O J x.a,O J x.b,O J x.slot,O J x.unt] 61)).drewN q=wq at c0 c1 c2 c3 e0 e1 e2 e3 hbw ⊢
   have HWQ:Hid _:=hwq
   clear hwq
   generalize hy:l[k]=y at c0 c1 c2 c3
   have HX:Hid (l[k]=y):=hy
   clear hy
   have ke:=fequal x y
   cases hh:flEq x y
   ·have HH:Hid ((l.take (k+1)).any (flEq x)=false):=any_snoc hlt HC.out (by rw[HX.out];exact hh)
    rw[hh] at ke
    go_wp2_with fail
    go_quiet (fail)
    go_wp2
    go_roundw
    case rel=>exact⟨k+1,q+nq,by omega,by go_num,by rw[<- HWQ.out,World.drewN_drewN],HH⟩
    case measure=>simp[intOf];omega
   ·have HH:Hid (hasF l x=true):=any_hit hlt (by rw[HX.out];exact hh)
    rw[hh] at ke
    go_wp2_with fail
    go_quiet (fail)
    go_wp2
    go_ret
    exact⟨k,rfl,by rw[HH.out];simp,hbw.trans ((Fe _ _).mono hbw.size)⟩
  ·have HH:Hid (hasF l x=false):=by
    have:=HC.out
    rw[show k=l.length by omega,List.take_length] at this
    exact this
   go_wp2
   go_ret
   exact⟨-1,rfl,by rw[HH.out];rfl,hbw⟩
theorem Ue(ao:Option Addr)(cap:Nat)(l:List Fl)(x:Fl)(w:World)(hbig:l.length<=1000)(hat:FRow w ao cap l) :
  Calls Tryz.prog 30 #[Y ao l.length cap,.agg #[O J x.a,O J x.b,O J x.slot,O J x.unt]] w fun e w'=>e=.returned (.bool (hasF l x))/\Below w.heap.size w w':=by
 have b0:Below w.heap.size w (w.alloc (.cells #[O J x.a,O J x.b,O J x.slot,O J x.unt] 61)):=Aa _ _
 have HAT2:Hid (FRow (w.alloc (.cells #[O J x.a,O J x.b,O J x.slot,O J x.unt] 61)) ao cap l):=hat.below b0
 clear hat
 go_enter Tryz.func30,Tryz.ntmps30
 go_wp2_with fail
 refine(Zp _ _ l x _ hbig HAT2.out).mono ?_
 rintro e w1 ⟨i,rfl,hd,hb1⟩
 have b1:=b0.trans (hb1.mono b0.size)
 have HD:Hid _:=hd
 clear hd hb1 b0
 go_wp2
 go_ret
 refine⟨?_,b1⟩
 rw[<- HD.out]
 rfl
end
end Go.Proofs.YthhgoenomehobaaGreat.mm
