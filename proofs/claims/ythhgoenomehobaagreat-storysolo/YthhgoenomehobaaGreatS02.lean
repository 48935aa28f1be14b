/- Parts. -/
import Derived.Test.YthhgoenomehobaaGreatChecked
import Derived.Test.YthhgoenomehobaaGreatS01
import Derived.WalkKit
import Derived.ProofKit
import Derived.OpenShut
import Derived.WalkLawsBesides
import Derived.WalkSpells
import Derived.Deep.RegionLaw
import Derived.Maps.AppendAt
import Derived.Maps.OwnOps
import Derived.Maps.OwnSet
import Derived.DeepKeys4
import Derived.Lib.SmallJoins
import Derived.Lib.BufferMore
import Derived.WalkSmall
import Derived.BigRegion
import Derived.Deep.QuietTactic
import Derived.BigQuiet
import Derived.Lib.QuietBelow
import Derived.ArgAppend
namespace Go.Proofs.YthhgoenomehobaaGreat.mm
set_option maxRecDepth 100000
set_option linter.unusedVariables false
open Go.Value renaming int → O, slice → Y
open Go.IntKind renaming i64 → J
section
open Go.ChangeShapes Go.WideShapes Go.ChangeAt Go.RowKit
theorem Eg{W w1:World}{n:Nat}(hb:Below n W w1):(∀ b o,b<n->w1.cell? ⟨b,o,none⟩=W.cell? ⟨b,o,none⟩)/\(∀ b o,b<n->w1.frozen? ⟨b,o,none⟩=W.frozen? ⟨b,o,none⟩) :=
 ⟨fun b o h=>hb.cell (p:=⟨b,o,none⟩) h,fun b o h=>hb.frozen (p:=⟨b,o,none⟩) h⟩
theorem cell_lt{w:World}{b o:Nat}{v:Value}(h:w.cell? ⟨b,o,none⟩=some v):b<w.heap.size:=by
 refine Nat.lt_of_not_le fun hh=>?_
 unfold World.cell? at h
 rw[Array.getElem?_eq_none hh] at h
 cases h
structure Ea(w:World)(ao:Option Addr)(cap:Nat)(l:List Int):Prop where
 le:l.length<=cap
 max:l.length*8<=140737488351232
 nil:ao=none->cap=0
 at_:l.length=0\/∃ b o,ao=some ⟨b,o,none⟩/\∀ i (h:i<l.length),w.cell? ⟨b,o+i,none⟩=some (O J l[i])
structure Jy(w:World)(ao:Option Addr)(cap:Nat)(l:List Sl):Prop where
 le:l.length<=cap
 max:l.length*48<=140737488351232
 nil:ao=none->cap=0
 at_:l.length=0\/∃ b o,ao=some ⟨b,o,none⟩/\∀ i (h:i<l.length),
  w.cell? ⟨b,o+i*6,none⟩=some (O J l[i].refs)/\w.cell? ⟨b,o+i*6+1,none⟩=some (O J l[i].a)/\w.cell? ⟨b,o+i*6+2,none⟩=some (O J l[i].b) /\
  w.cell? ⟨b,o+i*6+3,none⟩=some (O J l[i].unt)/\w.cell? ⟨b,o+i*6+4,none⟩=some (.bool l[i].inn)/\w.cell? ⟨b,o+i*6+5,none⟩=some (O J l[i].next)
theorem Ea.below{w w':World}{ao:Option Addr}{cap:Nat}{l:List Int}(r:Ea w ao cap l)(hb:Below w.heap.size w w'):Ea w' ao cap l:=by
 refine⟨r.le,r.max,r.nil,?_⟩
 rcases r.at_ with h|⟨b,o,h,hc⟩
 ·exact .inl h
 ·exact .inr ⟨b,o,h,fun i hi=>(hb.cell (p:=⟨b,o+i,none⟩) (cell_lt (hc i hi))).trans (hc i hi)⟩
theorem Jy.below{w w':World}{ao:Option Addr}{cap:Nat}{l:List Sl}(r:Jy w ao cap l)(hb:Below w.heap.size w w'):Jy w' ao cap l:=by
 refine⟨r.le,r.max,r.nil,?_⟩
 rcases r.at_ with h|⟨b,o,h,hc⟩
 ·exact .inl h
 ·refine .inr ⟨b,o,h,fun i hi=>?_⟩
  obtain⟨c0,c1,c2,c3,c4,c5⟩:=hc i hi
  have lt:=cell_lt c0
  obtain⟨q,_⟩:=Eg hb
  exact⟨(q _ _ lt).trans c0,(q _ _ lt).trans c1,(q _ _ lt).trans c2,(q _ _ lt).trans c3,(q _ _ lt).trans c4,(q _ _ lt).trans c5⟩
structure At(w:World)(aS aH aF aL:Option Addr)(cS cH cF cL:Nat)(M:Mm):Prop where
 s:Jy w aS cS M.slots
 h:Ea w aH cH M.heads
 f:Ea w aF cF M.free
 l:Ea w aL cL M.locks
theorem At.below{w w':World}{aS aH aF aL:Option Addr}{cS cH cF cL:Nat}{M:Mm}(r:At w aS aH aF aL cS cH cF cL M)(hb:Below w.heap.size w w'):At w' aS aH aF aL cS cH cF cL M :=
 ⟨r.s.below hb,r.h.below hb,r.f.below hb,r.l.below hb⟩
theorem Ad(w:World)(o:Obj):Below w.heap.size w (w.alloc o):=(Below.refl _ _).alloc (Nat.le_refl _) _
theorem Ho{w wr:World}{v0 v1 v2 v3 v4:Value}{t:TypeId}(hb:Below (w.heap.size+1) (w.alloc (.cells #[v0,v1,v2,v3,v4] t)) wr) :
  wr.cell? ⟨w.heap.size,0,none⟩=some v0/\wr.cell? ⟨w.heap.size,1,none⟩=some v1/\wr.cell? ⟨w.heap.size,2,none⟩=some v2/\wr.cell? ⟨w.heap.size,3,none⟩=some v3/\wr.cell? ⟨w.heap.size,4,none⟩=some v4/\w.heap.size+1<=wr.heap.size:=by
 obtain⟨q,_⟩:=Eg hb
 refine⟨(q _ _ (by omega)).trans (by simp),(q _ _ (by omega)).trans (by simp),(q _ _ (by omega)).trans (by simp),(q _ _ (by omega)).trans (by simp),(q _ _ (by omega)).trans (by simp),?_⟩
 have:=hb.size
 simpa using this
theorem Cm(x lo hi:Int)(w:World) :
  Calls Tryz.prog 85 #[O J x,O J lo,O J hi] w fun e w'=>e=.returned (.bool (inB x lo hi))/\w=w':=by
 by_cases h:lo<=x
 ·go_enter Tryz.func85,Tryz.ntmps85
  go_wp2
  go_ret
  exact⟨by simp[inB,h],rfl⟩
 ·have h':x<lo:=by omega
  go_enter Tryz.func85,Tryz.ntmps85
  go_wp2
  go_ret
  exact⟨by simp[inB];omega,rfl⟩
theorem Fz(aS aH aF aL:Option Addr)(nS nH nF nL cS cH cF cL:Nat)(now a:Int)(w:World)(hn:nS<=9223372036854775807) :
  Calls Tryz.prog 111 #[.agg #[Y aS nS cS,Y aH nH cH,Y aF nF cF,Y aL nL cL,O J now],O J a] w fun e w'=>e=.returned (.bool (inB a 0 ((nS:Int) - 1)))/\Below w.heap.size w w':=by
 by_cases h:0<=a
 ·by_cases h2:a<nS
  ·go_enter Tryz.func111,Tryz.ntmps111
   go_wp2
   go_ret
   refine⟨?_,Ad _ _⟩
   rw[show inB a 0 ((nS:Int) - 1)=true from (Ai _ _ _).2 ⟨h,by omega⟩];rfl
  ·have h3:(nS:Int)<=a:=by omega
   go_enter Tryz.func111,Tryz.ntmps111
   go_wp2
   go_ret
   refine⟨?_,Ad _ _⟩
   rw[show inB a 0 ((nS:Int) - 1)=false by simp[inB];omega];rfl
 ·have h':a<0:=by omega
  go_enter Tryz.func111,Tryz.ntmps111
  go_wp2
  go_ret
  refine⟨?_,Ad _ _⟩
  rw[show inB a 0 ((nS:Int) - 1)=false by simp[inB];omega];rfl
theorem Ku(aS aH aF aL:Option Addr)(nS nH nF nL cS cH cF cL:Nat)(now a:Int)(w:World)(hn:nS<=9223372036854775807)(hh:nH<=9223372036854775807) :
  Calls Tryz.prog 127 #[.agg #[Y aS nS cS,Y aH nH cH,Y aF nF cF,Y aL nL cL,O J now],O J a] w fun e w'=>e=.returned (.bool (inB a (-(nH:Int)) nS))/\Below w.heap.size w w':=by
 go_enter Tryz.func127,Tryz.ntmps127
 go_wp2_with (go_at_call 85;refine(Cm _ _ _ _).mono ?_;rintro e w1 ⟨rfl,rfl⟩)
 go_ret
 exact⟨rfl,Ad _ _⟩
theorem Wi(a b:Int)(w:World) :
  Calls Tryz.prog 138 #[.agg #[O J a,O J b]] w fun e w'=>e=.returned (.agg #[O J a,O J b])/\(w.alloc (.cells #[O J a,O J b] 30)).alloc (.cells #[O J a,O J b] 175)=w':=by
 go_enter Tryz.func138,Tryz.ntmps138
 go_wp2
 exact bodyPost_ret (v:=.agg #[O J a,O J b]) (by simp[results,Tryz.results138,go_sem]) rfl ⟨rfl,rfl⟩
theorem P5(a b:Int)(w:World)(h:Ee a b=true) :
  Calls Tryz.prog 96 #[.agg #[O J a,O J b]] w fun e w'=>e=.returned (O J 0)/\Below w.heap.size w w':=by
 obtain⟨⟨h0,h1⟩,h2,h3⟩:=(Sr a b).1 h
 clear h
 have i0:∀ w,(Instr.index 175 (.agg #[O J a,O J b]) (O J 0)).run Tryz.prog w=.ok (O J a) w:=fun _=>by kernel_rfl
 have i1:∀ w,(Instr.index 175 (.agg #[O J a,O J b]) (O J 1)).run Tryz.prog w=.ok (O J b) w:=fun _=>by kernel_rfl
 go_enter Tryz.func96,Tryz.ntmps96
 go_wp2_with (first|(go_at_call 138;refine(Wi _ _ _).mono ?_;rintro e w1 ⟨rfl,rfl⟩))
 refine wp_loop_rounds 3 ?_
 rw[rounds_succ]
 go_wp2
 rw[rounds_succ]
 go_wp2
 rw[rounds_succ]
 go_wp2
 go_ret
 refine⟨rfl,?_⟩
 repeat (first|exact Below.refl _ _|refine Below.alloc ?_ (by simp <;> omega) _)
theorem X8(a b:Int)(w:World)(h:Ee a b=false) :
  Calls Tryz.prog 96 #[.agg #[O J a,O J b]] w fun e w'=>e=.returned (O J 3)/\Below w.heap.size w w':=by
 have hc:a<0\/(0<=a/\15<a)\/(0<=a/\a<=15/\b<0)\/(0<=a/\a<=15/\0<=b/\15<b):=by
  have:¬ ((0<=a/\a<=15)/\(0<=b/\b<=15)):=fun hh=>by rw[(Sr a b).2 hh] at h;cases h
  omega
 clear h
 have i0:∀ w,(Instr.index 175 (.agg #[O J a,O J b]) (O J 0)).run Tryz.prog w=.ok (O J a) w:=fun _=>by kernel_rfl
 have i1:∀ w,(Instr.index 175 (.agg #[O J a,O J b]) (O J 1)).run Tryz.prog w=.ok (O J b) w:=fun _=>by kernel_rfl
 rcases hc with h|⟨h1,h2⟩|⟨h1,h2,h3⟩|⟨h1,h2,h3,h4⟩
 all_goals
  go_enter Tryz.func96,Tryz.ntmps96
  go_wp2_with (first|(go_at_call 138;refine(Wi _ _ _).mono ?_;rintro e w1 ⟨rfl,rfl⟩))
  refine wp_loop_rounds 3 ?_
  rw[rounds_succ]
  go_wp2
  try (rw[rounds_succ];go_wp2)
  go_ret
  refine⟨rfl,?_⟩
  repeat (first|exact Below.refl _ _|refine Below.alloc ?_ (by simp <;> omega) _)
theorem a2z(a b:Int)(w:World) :
  Calls Tryz.prog 96 #[.agg #[O J a,O J b]] w fun e w'=>e=.returned (O J (if Ee a b then 0 else 3))/\Below w.heap.size w w':=by
 cases h:Ee a b
 ·exact X8 a b w h
 ·exact P5 a b w h
end
section
open Go.ChangeShapes Go.WideShapes Go.ChangeAt Go.RowKit
theorem Jd(b:Int)(w:World)(h0:0<=b)(h1:b<=1000):Calls Tryz.prog 108 #[O J b] w fun e w'=>e=.returned (O J (-1 - b))/\w=w':=by
 go_enter Tryz.func108,Tryz.ntmps108
 go_wp2
 go_ret
 exact⟨by go_num,rfl⟩
theorem a4l(b:Int)(w:World)(h0:0<=b)(h1:b<=1000):Calls Tryz.prog 214 #[O J b] w fun e w'=>e=.returned (O J (b+1))/\w=w':=by
 go_enter Tryz.func214,Tryz.ntmps214
 go_wp2
 go_ret
 exact⟨by go_num,rfl⟩
theorem Q7(n:Int)(w:World)(h:n<=0):Calls Tryz.prog 140 #[O J n] w fun e w'=>e=.returned (.tuple #[O J 0,.bool false])/\w=w':=by
 go_enter Tryz.func140,Tryz.ntmps140
 go_wp2
 go_ret2
 exact⟨rfl,rfl⟩
theorem Q5(n:Int)(w:World)(h:0<n)(h1:n<=1000):Calls Tryz.prog 140 #[O J n] w fun e w'=>e=.returned (.tuple #[O J (n - 1),.bool true])/\w=w':=by
 go_enter Tryz.func140,Tryz.ntmps140
 go_wp2
 go_ret2
 exact⟨by go_num,rfl⟩
theorem Hq(aS aH aF aL:Option Addr)(nS nH nF nL cS cH cF cL:Nat)(now a:Int)(w:World)(hn:nH<=9223372036854775807) :
  Calls Tryz.prog 97 #[.agg #[Y aS nS cS,Y aH nH cH,Y aF nF cF,Y aL nL cL,O J now],O J a] w fun e w'=>e=.returned (.bool (inB a 0 ((nH:Int) - 1)))/\Below w.heap.size w w':=by
 by_cases h:0<=a
 ·by_cases h2:a<nH
  ·go_enter Tryz.func97,Tryz.ntmps97
   go_wp2
   go_ret
   refine⟨?_,Ad _ _⟩
   rw[show inB a 0 ((nH:Int) - 1)=true from (Ai _ _ _).2 ⟨h,by omega⟩];rfl
  ·have h3:(nH:Int)<=a:=by omega
   go_enter Tryz.func97,Tryz.ntmps97
   go_wp2
   go_ret
   refine⟨?_,Ad _ _⟩
   rw[show inB a 0 ((nH:Int) - 1)=false by simp[inB];omega];rfl
 ·have h':a<0:=by omega
  go_enter Tryz.func97,Tryz.ntmps97
  go_wp2
  go_ret
  refine⟨?_,Ad _ _⟩
  rw[show inB a 0 ((nH:Int) - 1)=false by simp[inB];omega];rfl
theorem I8{P:Program}(w:World){ops:Array Oper}{o:Oper}{a:Act}{K:Act->World->Prop}{Q:Exit->Act->World->Prop}{E:Prop}(hgd:o.guard=none)(s x:Operand)(t:TypeId)
  (ho:o.op=.call { callee:=.builtin .append,args:=#[s,x],argTypes:=#[t,t] })
  (base:Nat) (e:TypeId) (i:TypeInfo) (z:Value) (size bytes:Nat) (ht:P.underlying t=some (.slice e)) (hi:P.info? e=some i) (hz:i.zero=some z)
  (hsize:i.size=size) (hby:i.bytes=bytes) (hzs:z.cells.size=size) (hsz:0<size)
  (v:Value) (n:Nat) (xs:List Value) (hs:a.eval s=v) (hown:w.ownsRow base e size v n xs)
  (ad:Addr) (m c:Nat) (news:List Value) (hx:a.eval x=Y (some ad) m c) (hl:news.length=m*size) (hnews:∀ j u,news[j]?=some u->w.cell? (ad.add j)=some u) (h1:∀ u∈news,u.oneCell'=true)
  (h63:n+m<=maxLen) (hbytes:(n+m)*bytes<=140737488355328) (hbase:base<=w.heap.size)
  (h:∀ v' w',w'.ownsRow base e size v' (n+m) (xs++news)->w.grownBy w' v.ownBlock->(v'=Y none 0 0 ↔ v=Y none 0 0/\m=0)->(v'.ownBlock=v.ownBlock\/v'.ownBlock=some w.heap.size)->K (a.put o.dst v') w') :
  if Region.wanted o (yielded ops a.tmps)=true then Oper.wp P o a w K Q else E:=by
 have hw:Region.wanted o (yielded ops a.tmps)=true:=by simp[Region.wanted,hgd]
 rw[if_pos hw]
 obtain⟨v',w',hr,h2,h3,h4,h5⟩:=run_append_own_at (P:=P) w base t o.type e i z size bytes ht hi hz hsize hby hzs hsz v n xs hown ad m c news hl hnews h1 h63 hbytes hbase
 unfold Oper.wp execOp
 simp only[ho,resolve,invoke,builtin,Sem.run_bind,Sem.run_pure,Result.andThen_ok,List.map_toArray,List.map_cons,List.map_nil,hs,hx,hr]
 exact h v' w' h2 h3 h4 h5
end
section
open Go.ChangeShapes Go.WideShapes Go.ChangeAt Go.RowKit
theorem b0y(l:List Int)(k:Nat)(h:k<l.length)(x:Int)(h0:hasB (l.take k) x=false)(hx:¬ x=l[k]):hasB (l.take (k+1)) x=false:=by
 rw[a0w] at h0 ⊢
 rw[List.take_succ_eq_append_getElem h,List.mem_append,List.mem_singleton]
 rintro (h|h)
 ·exact h0 h
 ·exact hx h
theorem b5i(l:List Int)(k n:Nat)(h:k<l.length)(hk:k<n)(x:Int)(hx:x=l[k]):hasB (l.take n) x=true:=by
 rw[Oy]
 subst hx
 have:(l.take n)[k]?=some l[k]:=by rw[List.getElem?_take_of_lt hk];exact List.getElem?_eq_getElem h
 exact List.mem_of_getElem? this
set_option maxHeartbeats 400000 in
theorem a7e(ao:Option Addr)(n cap:Nat)(l:List Int)(x:Int)(w:World)(hn:n<=l.length)(hbig:n<=9223372036854775807)
  (hat:n=0\/∃ b o,ao=some ⟨b,o,none⟩/\∀ i (h:i<l.length),w.cell? ⟨b,o+i,none⟩=some (O J l[i])) :
  Calls Tryz.prog 78 #[Y ao n cap,O J x] w fun e w'=>∃ i:Int,e=.returned (O J i)/\decide (0<=i)=hasB (l.take n) x/\w=w':=by
 rcases hat with rfl|⟨b,o,rfl,hc⟩
 ·go_enter Tryz.func78,Tryz.ntmps78
  go_wp2
  refine wp_loop_rounds 1 ?_
  rw[rounds_succ]
  go_wp2
  go_ret
  exact⟨-1,rfl,by simp[hasB],rfl⟩
 ·go_enter Tryz.func78,Tryz.ntmps78
  go_wp2
  go_loop [8] (fun i=>∃ k:Nat,k<=n/\i=O J k/\Hid (hasB (l.take k) x=false)) (fun i=>n - (intOf i).toNat)
  case atStart=>exact⟨0,Nat.zero_le _,rfl,by show _=_;simp[hasB]⟩
  case round =>
   obtain⟨k,hk,rfl,HC⟩:=hrel
   by_cases hlt:k<n
   ·have hkl:k<l.length:=by omega
    have hck:=hc k hkl
    clear hc
    by_cases hx:x=l[k]
    ·have HH:Hid (hasB (l.take n) x=true):=b5i l k n hkl hlt x hx
     generalize l[k]=y at hck hx
     subst hx
     go_wp2
     go_ret
     exact⟨k,rfl,by rw[HH.out];simp,rfl⟩
    ·have HH:Hid (hasB (l.take (k+1)) x=false):=b0y l k hkl x HC.out hx
     have hx':(x==l[k])=false:=by simpa using hx
     go_wp2
     go_round
     case rel=>exact⟨k+1,by omega,by go_num,HH⟩
     case measure=>simp[intOf];omega
   ·obtain rfl:k=n:=by omega
    go_wp2
    go_ret
    exact⟨-1,rfl,by rw[HC.out];rfl,rfl⟩
theorem Jz(ao:Option Addr)(n cap:Nat)(l:List Int)(x:Int)(w:World)(hn:n<=l.length)(hbig:n<=9223372036854775807)
  (hat:n=0\/∃ b o,ao=some ⟨b,o,none⟩/\∀ i (h:i<l.length),w.cell? ⟨b,o+i,none⟩=some (O J l[i])) :
  Calls Tryz.prog 33 #[Y ao n cap,O J x] w fun e w'=>e=.returned (.bool (hasB (l.take n) x))/\w=w':=by
 go_enter Tryz.func33,Tryz.ntmps33
 go_wp2_with (go_at_call 78;refine(a7e _ _ _ l _ _ hn hbig hat).mono ?_;rintro e w1 ⟨i,rfl,hd,rfl⟩)
 go_ret
 exact⟨rfl,rfl⟩
end
section
open Go.ChangeShapes Go.WideShapes Go.ChangeAt Go.RowKit
theorem Dt{k:IntKind}{a b:Int}(h:a=b):Ending.returned (.int k a)=.returned (.int k b):=by rw[h]
theorem Lr{α:Type}{f:α->Int}{l:List α}{k:Nat}(h:k<l.length){e:Int}(he:f l[k]=e)(h0:e≠0)(H:Az f l=Az f (l.drop k)):Az f l=e:=by
 rw[H,Me f l k h,he,if_pos h0]
theorem step_ok{α:Type}{f:α->Int}{l:List α}{k:Nat}(h:k<l.length)(he:f l[k]=0)(H:Az f l=Az f (l.drop k)):Az f l=Az f (l.drop (k+1)):=by
 rw[H,Me f l k h,he,if_neg (by simp)]
set_option maxHeartbeats 1600000 in
theorem Vr(M:Mm)(aS aH aF aL:Option Addr)(cS cH cF cL:Nat)(w:World)(A:At w aS aH aF aL cS cH cF cL M) :
  Calls Tryz.prog 86 #[.agg #[Y aS M.slots.length cS,Y aH M.heads.length cH,Y aF M.free.length cF,Y aL M.locks.length cL,O J M.now]] w fun e w' =>
   e=.returned (O J (Az (Em M.heads.length M.slots.length) M.slots))/\Below w.heap.size w w':=by
 obtain⟨S,H,F,L,now⟩:=M
 obtain⟨rs,rh,rf,rl⟩:=A
 dsimp only at rs rh rf rl ⊢
 have m1:=rs.max;have m2:=rs.le;have m3:=rh.max;have m4:=rh.le
 have n1:S.length<=9223372036854775807:=by omega
 have n2:H.length<=9223372036854775807:=by omega
 obtain⟨f,hf⟩:∃ f,f=Em H.length S.length:=⟨_,rfl⟩
 have HF:Hid (f=Em H.length S.length):=hf
 rw[<- hf]
 clear hf
 have hz:=rs.at_
 clear rh rf rl rs
 go_enter Tryz.func86,Tryz.ntmps86
 go_wp2
 rcases hz with h0|⟨b,o,rfl,hc⟩
 ·have HE:Hid (Az f S=0):=by
   show _=_
   rw[List.eq_nil_of_length_eq_zero h0];rfl
  refine wp_loop_rounds 1 ?_
  rw[rounds_succ]
  go_wp2
  go_ret
  exact⟨Dt HE.out.symm,Ad _ _⟩
 ·go_loopw [9] (fun i wr=>∃ k:Nat,k<=S.length/\i=O J k/\Below (w.heap.size+1) (w.alloc (.cells #[Y (some ⟨b,o,none⟩) S.length cS,Y aH H.length cH,Y aF F.length cF,Y aL L.length cL,O J now] 25)) wr/\Hid (Az f S=Az f (S.drop k)))
   (fun i _=>S.length - (intOf i).toNat)
  case atStart=>exact⟨0,Nat.zero_le _,rfl,Below.refl _ _,by show _=_;rw[List.drop_zero]⟩
  case round =>
   obtain⟨k,hk,rfl,hb,HE⟩:=hrel
   have hbw:Below w.heap.size w wr:=(Ad w _).trans (hb.mono (by omega))
   obtain⟨q0,q1,q2,q3,q4,q5⟩:=Ho hb
   by_cases hlt:k<S.length
   ·obtain⟨c0,c1,c2,c3,c4,c5⟩:=hc k hlt
    have lt:=cell_lt c0
    obtain⟨qc,-⟩:=Eg hbw
    rw[<- qc _ _ lt] at c0 c1 c2 c3 c4 c5
    clear hc qc
    have lt':b<wr.heap.size:=cell_lt c0
    generalize hs:S[k]=s at c0 c1 c2 c3 c4 c5
    obtain⟨r,a,bb,u,i,nx⟩:=s
    dsimp only at c0 c1 c2 c3 c4 c5
    have HS:Hid (S[k]=⟨r,a,bb,u,i,nx⟩):=hs
    clear hs
    cases h1:inB r 0 1000
    ·have HV:Hid (Az f S=3):=Lr hlt (by rw[HS.out,HF.out];simp[Em,h1]) (by decide) HE.out
     go_wp2_with (go_at_call 85;refine(Cm _ _ _ _).mono ?_;rintro e w1 ⟨rfl,rfl⟩)
     go_ret
     exact⟨Dt HV.out.symm,hbw.alloc hbw.size _⟩
    cases h2:inB u 0 2000000
    ·have HV:Hid (Az f S=3):=Lr hlt (by rw[HS.out,HF.out];simp[Em,h2]) (by decide) HE.out
     go_wp2_with (go_at_call 85;refine(Cm _ _ _ _).mono ?_;rintro e w1 ⟨rfl,rfl⟩)
     go_ret
     exact⟨Dt HV.out.symm,hbw.alloc hbw.size _⟩
    cases h3:Ee a bb
    ·have HV:Hid (Az f S=3):=Lr hlt (by rw[HS.out,HF.out];simp[Em,h3]) (by decide) HE.out
     go_wp2_with (first|(go_at_call 85;refine(Cm _ _ _ _).mono ?_;rintro e w1 ⟨rfl,rfl⟩)|(go_at_call 96;refine(X8 _ _ _ h3).mono ?_;rintro e w1 ⟨rfl,hb1⟩))
     go_ret
     exact⟨Dt HV.out.symm,(hbw.alloc hbw.size _).trans (hb1.mono (by have:=hbw.size;simp;omega))⟩
    go_wp2_with (go_at_call 85;refine(Cm _ _ _ _).mono ?_;rintro e w1 ⟨rfl,rfl⟩)
    refine(P5 _ _ _ h3).mono ?_
    rintro e w1 ⟨rfl,hb1⟩
    have hbx:Below w.heap.size w w1:=(hbw.alloc hbw.size _).trans (hb1.mono (by have:=hbw.size;simp;omega))
    have hby:=(hb.alloc q5 (.cells #[O J r,O J a,O J bb,O J u,.bool i,O J nx] 64)).trans (hb1.mono (by simp;omega))
    have s5:w1.cell? ⟨wr.heap.size,5,none⟩=some (O J nx):=((Eg hb1).1 _ _ (by simp)).trans (by simp)
    have z1:wr.heap.size+1<=w1.heap.size:=by have:=hb1.size;simpa using this
    clear hb1 c0 c1 c2 c3 c4 c5 q0 q1 q2 q3 q4
    obtain⟨q0,q1,q2,q3,q4,-⟩:=Ho hby
    cases h4:inB nx (-(H.length:Int)) S.length
    ·have HV:Hid (Az f S=5):=Lr hlt (by rw[HS.out,HF.out];simp[Em,h1,h2,h3,h4]) (by decide) HE.out
     go_wp2_with (go_at_call 127;refine(Ku _ _ _ _ _ _ _ _ _ _ _ _ _ _ _ n1 n2).mono ?_;rintro e w2 ⟨rfl,hb2⟩)
     go_ret
     exact⟨Dt HV.out.symm,hbx.trans (hb2.mono hbx.size)⟩
    ·have HV:Hid (Az f S=Az f (S.drop (k+1))):=step_ok hlt (by rw[HS.out,HF.out];simp[Em,h1,h2,h3,h4]) HE.out
     go_wp2_with (go_at_call 127;refine(Ku _ _ _ _ _ _ _ _ _ _ _ _ _ _ _ n1 n2).mono ?_;rintro e w2 ⟨rfl,hb2⟩)
     go_roundw
     case rel=>exact⟨k+1,by omega,by go_num,hby.trans (hb2.mono (by omega)),HV⟩
     case measure=>simp[intOf];omega
   ·have HV:Hid (Az f S=0):=by
     show _=_
     rw[HE.out,Qo f S k (by omega)]
    go_wp2
    go_ret
    exact⟨Dt HV.out.symm,hbw⟩
end
section
open Go.ChangeShapes Go.WideShapes Go.ChangeAt Go.RowKit
set_option maxHeartbeats 1600000 in
theorem Uu(M:Mm)(aS aH aF aL:Option Addr)(cS cH cF cL:Nat)(w:World)(A:At w aS aH aF aL cS cH cF cL M)(hl:M.locks.length=M.heads.length) :
  Calls Tryz.prog 87 #[.agg #[Y aS M.slots.length cS,Y aH M.heads.length cH,Y aF M.free.length cF,Y aL M.locks.length cL,O J M.now]] w fun e w' =>
   e=.returned (O J (Az (F8 M.heads.length M.slots.length) (M.heads.zip M.locks)))/\Below w.heap.size w w':=by
 obtain⟨S,H,F,L,now⟩:=M
 obtain⟨rs,rh,rf,rl⟩:=A
 dsimp only at rs rh rf rl hl ⊢
 have m1:=rs.max;have m2:=rs.le;have m3:=rh.max;have m4:=rh.le
 have n1:S.length<=9223372036854775807:=by omega
 have n2:H.length<=9223372036854775807:=by omega
 have hzl:(H.zip L).length=H.length:=by rw[List.length_zip];omega
 obtain⟨f,hf⟩:∃ f,f=F8 H.length S.length:=⟨_,rfl⟩
 have HF:Hid (f=F8 H.length S.length):=hf
 rw[<- hf]
 clear hf
 obtain⟨Z,hZ⟩:∃ Z,Z=H.zip L:=⟨_,rfl⟩
 have HZ:Hid (Z=H.zip L):=hZ
 rw[<- hZ] at hzl ⊢
 clear hZ
 have HL:Hid (Z.length=H.length):=hzl
 have HLL:Hid (L.length=H.length):=hl
 clear hzl hl
 have hz:=rh.at_
 have hz2:=rl.at_
 clear rh rf rl rs
 go_enter Tryz.func87,Tryz.ntmps87
 go_wp2
 rcases hz with h0|⟨b,o,rfl,hc⟩
 ·have HE:Hid (Az f Z=0):=by
   show _=_
   rw[List.eq_nil_of_length_eq_zero (HL.out.trans h0)];rfl
  refine wp_loop_rounds 1 ?_
  rw[rounds_succ]
  go_wp2
  go_ret
  exact⟨Dt HE.out.symm,Ad _ _⟩
 ·rcases hz2 with h0|⟨b2,o2,rfl,hc2⟩
  ·have h0':H.length=0:=by rw[<- HLL.out];exact h0
   have HE:Hid (Az f Z=0):=by
    show _=_
    rw[List.eq_nil_of_length_eq_zero (HL.out.trans h0')];rfl
   refine wp_loop_rounds 1 ?_
   rw[rounds_succ]
   go_wp2
   go_ret
   exact⟨Dt HE.out.symm,Ad _ _⟩
  go_loopw [8] (fun i wr=>∃ k:Nat,k<=H.length/\i=O J k/\Below (w.heap.size+1) (w.alloc (.cells #[Y aS S.length cS,Y (some ⟨b,o,none⟩) H.length cH,Y aF F.length cF,Y (some ⟨b2,o2,none⟩) L.length cL,O J now] 25)) wr/\Hid (Az f Z=Az f (Z.drop k)))
   (fun i _=>H.length - (intOf i).toNat)
  case atStart=>exact⟨0,Nat.zero_le _,rfl,Below.refl _ _,by show _=_;rw[List.drop_zero]⟩
  case round =>
   obtain⟨k,hk,rfl,hb,HE⟩:=hrel
   have hbw:Below w.heap.size w wr:=(Ad w _).trans (hb.mono (by omega))
   obtain⟨q0,q1,q2,q3,q4,q5⟩:=Ho hb
   by_cases hlt:k<H.length
   ·have hltL:k<L.length:=by have:=HLL.out;omega
    have hltZ:k<Z.length:=by have:=HL.out;omega
    have c0:=hc k hlt
    have d0:=hc2 k hltL
    have lt:=cell_lt c0
    have lt2:=cell_lt d0
    obtain⟨qc,-⟩:=Eg hbw
    rw[<- qc _ _ lt] at c0
    rw[<- qc _ _ lt2] at d0
    clear hc hc2 qc
    generalize hx:H[k]=x at c0
    generalize hy:L[k]=y at d0
    have HS:Hid (Z[k]=(x,y)):=by
     show _=_
     have e:Z[k]?=some (x,y):=by rw[HZ.out,List.getElem?_zip_eq_some];exact⟨by rw[List.getElem?_eq_getElem hlt,hx],by rw[List.getElem?_eq_getElem hltL,hy]⟩
     rw[List.getElem?_eq_getElem hltZ] at e
     exact Option.some.inj e
    clear hx hy
    by_cases hx0:x=0
    ·have HV:Hid (Az f Z=5):=Lr hltZ (by rw[HS.out,HF.out];simp[F8,hx0]) (by decide) HE.out
     subst hx0
     go_wp2
     go_ret
     exact⟨Dt HV.out.symm,hbw⟩
    have hx1:(x==0)=false:=by simpa using hx0
    cases h1:inB x (-(H.length:Int)) S.length
    ·have HV:Hid (Az f Z=5):=Lr hltZ (by rw[HS.out,HF.out];simp[F8,h1]) (by decide) HE.out
     go_wp2_with (go_at_call 127;refine(Ku _ _ _ _ _ _ _ _ _ _ _ _ _ _ _ n1 n2).mono ?_;rintro e w2 ⟨rfl,hb2⟩)
     go_ret
     exact⟨Dt HV.out.symm,hbw.trans (hb2.mono hbw.size)⟩
    go_wp2_with fail
    refine(Ku _ _ _ _ _ _ _ _ _ _ _ _ _ _ _ n1 n2).mono ?_
    rintro e w2 ⟨rfl,hb2⟩
    have hbx:=hbw.trans (hb2.mono hbw.size)
    have hby:=hb.trans (hb2.mono q5)
    replace d0:=((Eg hb2).1 _ _ (cell_lt d0)).trans d0
    clear hb2 q0 q1 q2 q3 q4
    obtain⟨q0,q1,q2,q3,q4,-⟩:=Ho hby
    cases h2:inB y (-1) 4
    ·have HV:Hid (Az f Z=3):=Lr hltZ (by rw[HS.out,HF.out];simp[F8,hx0,h1,h2]) (by decide) HE.out
     go_wp2_with (go_at_call 85;refine(Cm _ _ _ _).mono ?_;rintro e w1 ⟨rfl,rfl⟩)
     go_ret
     exact⟨Dt HV.out.symm,hbx⟩
    ·have HV:Hid (Az f Z=Az f (Z.drop (k+1))):=step_ok hltZ (by rw[HS.out,HF.out];simp[F8,hx0,h1,h2]) HE.out
     go_wp2_with (go_at_call 85;refine(Cm _ _ _ _).mono ?_;rintro e w1 ⟨rfl,rfl⟩)
     go_roundw
     case rel=>exact⟨k+1,by omega,by go_num,hby,HV⟩
     case measure=>simp[intOf];omega
   ·have HV:Hid (Az f Z=0):=by
     show _=_
     rw[HE.out,Qo f Z k (by have:=HL.out;omega)]
    go_wp2
    go_ret
    exact⟨Dt HV.out.symm,hbw⟩
end
section
open Go.ChangeShapes Go.WideShapes Go.ChangeAt Go.RowKit
theorem a6u{S:List Sl}{a:Int}{k:Nat}(h:k<S.length)(ha:a=k):I4 S a=decide (S[k].refs=0):=by
 subst ha
 simp[I4,h]
theorem a6t{S:List Sl}{a:Int}(h:inB a 0 ((S.length:Int) - 1)=false):I4 S a=false:=by
 have:¬ (0<=a/\a<=(S.length:Int) - 1):=fun hh=>by rw[(Ai _ _ _).2 hh] at h;cases h
 rw[Bool.eq_false_iff]
 intro hh
 rw[Et] at hh
 omega
theorem Rk(ao:Option Addr)(cap:Nat)(l:List Int)(x:Int)(w:World)(r:Ea w ao cap l) :
  Calls Tryz.prog 33 #[Y ao l.length cap,O J x] w fun e w'=>e=.returned (.bool (hasB l x))/\w=w':=by
 have:=Jz ao l.length cap l x w (Nat.le_refl _) (by have:=r.max;omega) r.at_
 rwa [List.take_length] at this
theorem Wl{S:List Sl}{F:List Int}{k:Nat}(h:k<F.length)(h0:I4 S F[k]=false)(H:D6 S [] F=D6 S (F.take k) (F.drop k)):D6 S [] F=5:=by
 rw[H,O6 S F k h,h0];rfl
theorem a2t{S:List Sl}{F:List Int}{k:Nat}(h:k<F.length)(h0:I4 S F[k]=true)(h1:hasB (F.take k) F[k]=true)(H:D6 S [] F=D6 S (F.take k) (F.drop k)):D6 S [] F=6:=by
 rw[H,O6 S F k h,h0,h1];rfl
theorem a6p{S:List Sl}{F:List Int}{k:Nat}(h:k<F.length)(h0:I4 S F[k]=true)(h1:hasB (F.take k) F[k]=false)(H:D6 S [] F=D6 S (F.take k) (F.drop k)):D6 S [] F=D6 S (F.take (k+1)) (F.drop (k+1)):=by
 rw[H,O6 S F k h,h0,h1];rfl
theorem a3i{S:List Sl}{F:List Int}{k:Nat}(h:k<S.length)(h0:S[k].refs=0)(h1:hasB F (k:Int)=false)(H:Dw F 0 S=Dw F k (S.drop k)):Dw F 0 S=4:=by
 rw[H,Tf F S k h,h0,h1];rfl
theorem Yu{S:List Sl}{F:List Int}{k:Nat}(h:k<S.length)(h0:S[k].refs≠0\/hasB F (k:Int)=true)(H:Dw F 0 S=Dw F k (S.drop k)):Dw F 0 S=Dw F (k+1) (S.drop (k+1)):=by
 rw[H,Tf F S k h]
 rcases h0 with h0|h0
 ·rw[if_neg (by simp[h0])]
 ·rw[if_neg (by simp[h0])]
set_option maxHeartbeats 3200000 in
theorem Y5(M:Mm)(aS aH aF aL:Option Addr)(cS cH cF cL:Nat)(w:World)(A:At w aS aH aF aL cS cH cF cL M) :
  Calls Tryz.prog 88 #[.agg #[Y aS M.slots.length cS,Y aH M.heads.length cH,Y aF M.free.length cF,Y aL M.locks.length cL,O J M.now]] w fun e w' =>
   e=.returned (O J (if D6 M.slots [] M.free≠0 then D6 M.slots [] M.free else Dw M.free 0 M.slots))/\Below w.heap.size w w':=by
 obtain⟨S,H,F,L,now⟩:=M
 obtain⟨rs,rh,rf,rl⟩:=A
 dsimp only at rs rh rf rl ⊢
 have m1:=rs.max;have m2:=rs.le;have m3:=rf.max;have m4:=rf.le
 have n1:S.length<=9223372036854775807:=by omega
 have n2:F.length<=9223372036854775807:=by omega
 obtain⟨Z,hZ⟩:∃ Z:Int,Z=(if D6 S [] F≠0 then D6 S [] F else Dw F 0 S):=⟨_,rfl⟩
 have HZ:Hid (Z=(if D6 S [] F≠0 then D6 S [] F else Dw F 0 S)):=hZ
 rw[<- hZ]
 clear hZ
 have HRS:Hid (Jy w aS cS S):=rs
 have HRF:Hid (Ea w aF cF F):=rf
 clear rh rf rl rs
 go_enter Tryz.func88,Tryz.ntmps88
 go_wp2
 go_loopw [10] (fun i wr=>∃ k:Nat,k<=F.length/\i=O J k/\Below (w.heap.size+1) (w.alloc (.cells #[Y aS S.length cS,Y aH H.length cH,Y aF F.length cF,Y aL L.length cL,O J now] 25)) wr/\Hid (D6 S [] F=D6 S (F.take k) (F.drop k)))
  (fun i _=>F.length - (intOf i).toNat)
 case atStart=>exact⟨0,Nat.zero_le _,rfl,Below.refl _ _,by show _=_;rw[List.drop_zero,List.take_zero]⟩
 case round =>
  obtain⟨k,hk,rfl,hb,HE⟩:=hrel
  have hbw:Below w.heap.size w wr:=(Ad w _).trans (hb.mono (by omega))
  obtain⟨q0,q1,q2,q3,q4,q5⟩:=Ho hb
  by_cases hlt:k<F.length
  ·rcases HRF.out.at_ with h0|⟨b,o,rfl,hc⟩
   ·omega
   have c0:=hc k hlt
   have lt:=cell_lt c0
   rw[<- (Eg hbw).1 _ _ lt] at c0
   generalize hx:F[k]=x at c0
   have HX:Hid (F[k]=x):=hx
   clear hx
   cases h1:inB x 0 ((S.length:Int) - 1)
   ·have HV:Hid (Z=5):=by
     show _=_
     rw[HZ.out,Wl hlt (by rw[HX.out];exact a6t h1) HE.out];rfl
    go_wp2_with (go_at_call 111;refine(Fz _ _ _ _ _ _ _ _ _ _ _ _ _ _ _ n1).mono ?_;rintro e w2 ⟨rfl,hb2⟩)
    go_ret
    exact⟨Dt HV.out.symm,hbw.trans (hb2.mono hbw.size)⟩
   have hxb:=(Ai _ _ _).1 h1
   obtain⟨j,rfl⟩:∃ j:Nat,x=j:=⟨x.toNat,by omega⟩
   have hj:j<S.length:=by omega
   rcases HRS.out.at_ with h0|⟨b2,o2,rfl,hc2⟩
   ·omega
   have d0:=(hc2 j hj).1
   have lt2:=cell_lt d0
   rw[<- (Eg hbw).1 _ _ lt2] at d0
   generalize hr:S[j].refs=r at d0
   have HOK:Hid (I4 S (F[k]'hlt)=decide (r=0)):=by
    show _=_
    rw[HX.out,a6u hj rfl,hr]
   clear hr hc2
   go_wp2_with fail
   refine(Fz _ _ _ _ _ _ _ _ _ _ _ _ _ _ _ n1).mono ?_
   rintro e w2 ⟨rfl,hb2⟩
   have hbx:=hbw.trans (hb2.mono hbw.size)
   have hby:=hb.trans (hb2.mono q5)
   replace d0:=((Eg hb2).1 _ _ (cell_lt d0)).trans d0
   clear hb2 q0 q1 q2 q3 q4 c0
   obtain⟨q0,q1,q2,q3,q4,-⟩:=Ho hby
   by_cases hr0:r=0
   ·subst hr0
    have HAT:Hid (k=0\/∃ b' o',(some ⟨b,o,none⟩:Option Addr)=some ⟨b',o',none⟩/\∀ i (h:i<F.length),w2.cell? ⟨b',o'+i,none⟩=some (O J F[i])) :=
     .inr ⟨b,o,rfl,fun i hi=>((Eg hbx).1 _ _ (cell_lt (hc i hi))).trans (hc i hi)⟩
    clear hc
    cases h2:hasB (F.take k) j
    ·have HV:Hid (D6 S [] F=D6 S (F.take (k+1)) (F.drop (k+1))):=a6p hlt (by rw[HOK.out];rfl) (by rw[HX.out];exact h2) HE.out
     go_wp2_with (go_at_call 33;refine(Jz _ _ _ F _ _ hk (by omega) HAT.out).mono ?_;rintro e w1 ⟨rfl,rfl⟩)
     go_roundw
     case rel=>exact⟨k+1,by omega,by go_num,hby,HV⟩
     case measure=>simp[intOf];omega
    ·have HV:Hid (Z=6):=by
      show _=_
      rw[HZ.out,a2t hlt (by rw[HOK.out];rfl) (by rw[HX.out];exact h2) HE.out];rfl
     go_wp2_with (go_at_call 33;refine(Jz _ _ _ F _ _ hk (by omega) HAT.out).mono ?_;rintro e w1 ⟨rfl,rfl⟩)
     go_ret
     exact⟨Dt HV.out.symm,hbx⟩
   ·have hr1:(r != 0)=true:=by simpa using hr0
    have HV:Hid (Z=5):=by
     show _=_
     rw[HZ.out,Wl hlt (by rw[HOK.out];simpa using hr0) HE.out];rfl
    go_wp2
    go_ret
    exact⟨Dt HV.out.symm,hbx⟩
  ·have HZ2:Hid (Z=Dw F 0 S):=by
    show _=_
    rw[HZ.out,HE.out,a0t S F k (by omega)];rfl
   clear HZ HE
   go_wp2
   go_loopw [38] (fun i wr=>∃ k:Nat,k<=S.length/\i=O J k/\Below (w.heap.size+1) (w.alloc (.cells #[Y aS S.length cS,Y aH H.length cH,Y aF F.length cF,Y aL L.length cL,O J now] 25)) wr/\Hid (Dw F 0 S=Dw F k (S.drop k)))
    (fun i _=>S.length - (intOf i).toNat)
   case atStart=>exact⟨0,Nat.zero_le _,rfl,hb,by show _=_;rw[List.drop_zero]⟩
   case round =>
    obtain⟨k2,hk2,rfl,hb3,HE⟩:=hrel
    clear hbw hb q0 q1 q2 q3 q4 q5
    have hbw:Below w.heap.size w wr:=(Ad w _).trans (hb3.mono (by omega))
    obtain⟨q0,q1,q2,q3,q4,q5⟩:=Ho hb3
    have q6:w.heap.size<wr.heap.size:=q5
    by_cases hlt2:k2<S.length
    ·rcases HRS.out.at_ with h0|⟨b,o,rfl,hc⟩
     ·omega
     obtain⟨c0,c1,c2,c3,c4,c5⟩:=hc k2 hlt2
     have lt:=cell_lt c0
     rw[<- (Eg hbw).1 _ _ lt] at c0 c1 c2 c3 c4 c5
     clear hc
     generalize hs:S[k2]=s at c0 c1 c2 c3 c4 c5
     obtain⟨r,a,bb,u,i,nx⟩:=s
     dsimp only at c0 c1 c2 c3 c4 c5
     have HS:Hid (S[k2]=⟨r,a,bb,u,i,nx⟩):=hs
     clear hs
     have hbx:=hbw.alloc hbw.size (.cells #[O J r,O J a,O J bb,O J u,.bool i,O J nx] 64)
     have hby:=hb3.alloc q5 (.cells #[O J r,O J a,O J bb,O J u,.bool i,O J nx] 64)
     have HRF2:Hid _:=HRF.out.below hbx
     by_cases hr0:r=0
     ·subst hr0
      cases h2:hasB F k2
      ·have HV:Hid (Z=4):=by
        show _=_
        rw[HZ2.out,a3i hlt2 (by rw[HS.out]) h2 HE.out]
       go_wp2_with (go_at_call 33;refine(Rk _ _ F _ _ HRF2.out).mono ?_;rintro e w1 ⟨rfl,rfl⟩)
       go_ret
       exact⟨Dt HV.out.symm,hbx⟩
      ·have HV:Hid (Dw F 0 S=Dw F (k2+1) (S.drop (k2+1))):=Yu hlt2 (.inr h2) HE.out
       go_wp2_with (go_at_call 33;refine(Rk _ _ F _ _ HRF2.out).mono ?_;rintro e w1 ⟨rfl,rfl⟩)
       go_roundw
       case rel=>exact⟨k2+1,by omega,by go_num,hby,HV⟩
       case measure=>simp[intOf];omega
     ·have hr1:(r==0)=false:=by simpa using hr0
      have HV:Hid (Dw F 0 S=Dw F (k2+1) (S.drop (k2+1))):=Yu hlt2 (.inl (by rw[HS.out];exact hr0)) HE.out
      go_wp2
      go_roundw
      case rel=>exact⟨k2+1,by omega,by go_num,hby,HV⟩
      case measure=>simp[intOf];omega
    ·have HV:Hid (Z=0):=by
      show _=_
      rw[HZ2.out,HE.out,a1g F S k2 (by omega)]
     go_wp2
     go_ret
     exact⟨Dt HV.out.symm,hbw⟩
end
section
open Go.ChangeShapes Go.WideShapes Go.ChangeAt Go.RowKit
set_option maxHeartbeats 1600000 in
theorem check_any(M:Mm)(aS aH aF aL:Option Addr)(cS cH cF cL:Nat)(w:World)(A:At w aS aH aF aL cS cH cF cL M) :
  Calls Tryz.prog 40 #[.agg #[Y aS M.slots.length cS,Y aH M.heads.length cH,Y aF M.free.length cF,Y aL M.locks.length cL,O J M.now]] w fun e w' =>
   e=.returned (O J (chk M))/\Below w.heap.size w w':=by
 have m1:=A.s.max;have m2:=A.s.le;have m3:=A.h.max;have m4:=A.h.le;have m5:=A.l.max;have m6:=A.l.le
 have n1:M.slots.length<=9223372036854775807:=by omega
 have n2:M.heads.length<=9223372036854775807:=by omega
 have n3:M.locks.length<=9223372036854775807:=by omega
 clear m1 m2 m3 m4 m5 m6
 by_cases h1:12<M.slots.length
 ·have HV:Hid (chk M=2):=by show _=_;unfold chk;rw[if_pos (.inl h1)]
  go_enter Tryz.func40,Tryz.ntmps40
  go_wp2
  go_ret
  exact⟨Dt HV.out.symm,Ad _ _⟩
 cases h2:inB (M.heads.length:Int) 1 4
 ·have HV:Hid (chk M=2):=by
   show _=_;unfold chk
   have:¬ (1<=(M.heads.length:Int)/\(M.heads.length:Int)<=4):=fun hh=>by rw[(Ai _ _ _).2 hh] at h2;cases h2
   rw[if_pos (by omega)]
  go_enter Tryz.func40,Tryz.ntmps40
  go_wp2_with (go_at_call 85;refine(Cm _ _ _ _).mono ?_;rintro e w1 ⟨rfl,rfl⟩)
  go_ret
  exact⟨Dt HV.out.symm,Ad _ _⟩
 have h2':=(Ai _ _ _).1 h2
 by_cases h3:M.locks.length=M.heads.length
 rotate_left
 ·have HV:Hid (chk M=4):=by
   show _=_;unfold chk
   rw[if_neg (by omega),if_pos h3]
  have h3':((M.locks.length:Int) != (M.heads.length:Int))=true:=by rw[bne_iff_ne];omega
  go_enter Tryz.func40,Tryz.ntmps40
  go_wp2_with (go_at_call 85;refine(Cm _ _ _ _).mono ?_;rintro e w1 ⟨rfl,rfl⟩)
  go_ret
  exact⟨Dt HV.out.symm,Ad _ _⟩
 have h3':((M.locks.length:Int) != (M.heads.length:Int))=false:=by rw[h3];simp
 have H3:Hid (M.locks.length=M.heads.length):=h3
 clear h3
 cases h4:inB M.now 0 1000000
 ·have HV:Hid (chk M=3):=by
   show _=_;unfold chk
   rw[if_neg (by omega),if_neg (by simpa using H3.out),if_pos h4]
  go_enter Tryz.func40,Tryz.ntmps40
  go_wp2_with (go_at_call 85;refine(Cm _ _ _ _).mono ?_;rintro e w1 ⟨rfl,rfl⟩)
  go_ret
  exact⟨Dt HV.out.symm,Ad _ _⟩
 have HC:Hid (chk M=(if Az (Em M.heads.length M.slots.length) M.slots≠0 then Az (Em M.heads.length M.slots.length) M.slots
   else if Az (F8 M.heads.length M.slots.length) (M.heads.zip M.locks)≠0 then Az (F8 M.heads.length M.slots.length) (M.heads.zip M.locks)
   else if D6 M.slots [] M.free≠0 then D6 M.slots [] M.free
   else Dw M.free 0 M.slots)):=by
  show _=_
  unfold chk
  rw[if_neg (by omega),if_neg (by simpa using H3.out),if_neg (by rw[h4];simp)]
 have A1:=A.below (Ad w (.cells #[Y aS M.slots.length cS,Y aH M.heads.length cH,Y aF M.free.length cF,Y aL M.locks.length cL,O J M.now] 25))
 have HA1:Hid _:=A1
 clear A A1
 go_enter Tryz.func40,Tryz.ntmps40
 go_wp2_with (go_at_call 85;refine(Cm _ _ _ _).mono ?_;rintro e w1 ⟨rfl,rfl⟩)
 refine(Vr M aS aH aF aL cS cH cF cL _ HA1.out).mono ?_
 rintro e w1 ⟨rfl,hb1⟩
 have HA2:Hid _:=HA1.out.below hb1
 have hx1:=(Ad w (.cells #[Y aS M.slots.length cS,Y aH M.heads.length cH,Y aF M.free.length cF,Y aL M.locks.length cL,O J M.now] 25)).trans (hb1.mono (by simp))
 have hy1:=hb1.mono (show w.heap.size+1<=_ by simp)
 clear hb1 HA1
 obtain⟨q0,q1,q2,q3,q4,q5⟩:=Ho hy1
 generalize hE1:Az (Em M.heads.length M.slots.length) M.slots=E1
 have HE1:Hid _:=hE1
 clear hE1
 by_cases e1:E1=0
 rotate_left
 ·have e1':(E1 != 0)=true:=by simpa using e1
  have HV:Hid (chk M=E1):=by
   show _=_
   rw[HC.out,HE1.out,if_pos e1]
  go_wp2
  go_ret
  exact⟨Dt HV.out.symm,hx1⟩
 subst e1
 go_wp2_with fail
 refine(Uu M aS aH aF aL cS cH cF cL _ HA2.out H3.out).mono ?_
 rintro e w2 ⟨rfl,hb2⟩
 have HA3:Hid _:=HA2.out.below hb2
 have hx2:=hx1.trans (hb2.mono hx1.size)
 have hy2:=hy1.trans (hb2.mono q5)
 clear hb2 HA2 q0 q1 q2 q3 q4 q5
 obtain⟨q0,q1,q2,q3,q4,q5⟩:=Ho hy2
 generalize hE2:Az (F8 M.heads.length M.slots.length) (M.heads.zip M.locks)=E2
 have HE2:Hid _:=hE2
 clear hE2
 by_cases e2:E2=0
 rotate_left
 ·have e2':(E2 != 0)=true:=by simpa using e2
  have HV:Hid (chk M=E2):=by
   show _=_
   rw[HC.out,HE1.out,HE2.out,if_neg (by simp),if_pos e2]
  go_wp2
  go_ret
  exact⟨Dt HV.out.symm,hx2⟩
 subst e2
 go_wp2_with fail
 refine(Y5 M aS aH aF aL cS cH cF cL _ HA3.out).mono ?_
 rintro e w3 ⟨rfl,hb3⟩
 have hx3:=hx2.trans (hb3.mono hx2.size)
 generalize hE3:(if D6 M.slots [] M.free≠0 then D6 M.slots [] M.free else Dw M.free 0 M.slots)=E3
 have HV:Hid (chk M=E3):=by
  show _=_
  rw[HC.out,HE1.out,HE2.out,if_neg (by simp),if_neg (by simp),hE3]
 clear hE3
 go_wp2
 go_ret
 exact⟨Dt HV.out.symm,hx3⟩
end
section
open Go.ChangeShapes Go.WideShapes Go.ChangeAt Go.RowKit Go.Maps
theorem law3:Keyed Tryz.prog 3:=int_keyed Tryz.underlying3
theorem wf64{x:Int}(h0:-9223372036854775808<=x)(h1:x<=9223372036854775807):(Lit.int .i64 x).wf=true:=by
 have e1:IntKind.i64.min=-9223372036854775808:=by decide
 have e2:IntKind.i64.max=9223372036854775807:=by decide
 simp[Lit.wf,e1,e2]
 omega
end
section
open Go.ChangeShapes Go.WideShapes Go.ChangeAt Go.RowKit Go.Maps
theorem U2(a b:Int)(n:Nat)(w:World)(hk:Ee a b=true)(n0:1<=n)(n1:n<=4) :
  Calls Tryz.prog 49 #[.agg #[.int .i64 a,.int .i64 b],.int .i64 n] w fun e w'=>e=.returned (.tuple #[.int .i64 (Eh a b n),.int .i64 0])/\Below w.heap.size w w':=by
 obtain⟨⟨h0,h1⟩,h2,h3⟩:=(Sr a b).1 hk
 have hab0:0<=a*b:=Int.mul_nonneg h0 h2
 have hab1:a*b<=15*15:=Int.mul_le_mul h1 h3 h2 (by omega)
 have e1:wrap64 (a*b)=a*b:=by unfold wrap64;omega
 have e2:wrap64 (7*a+3*b+a*b)=7*a+3*b+a*b:=by unfold wrap64;omega
 have e3:(7*a+3*b+a*b).tmod n=(7*a+3*b+a*b) % n:=Int.tmod_eq_emod_of_nonneg (by omega)
 have H1:Hid ((wrap64 (7*a+3*b+wrap64 (a*b))).tmod n=Eh a b n):=by rw[e1,e2,e3];trivial
 clear e1 e2 e3 hab0 hab1
 have HK:Hid (Ee a b=true):=hk
 clear hk
 go_enter Tryz.func49,Tryz.ntmps49
 go_wp2_with fail
 refine(P5 _ _ _ HK.out).mono ?_
 rintro e w1 ⟨rfl,hb1⟩
 have c0:w1.cell? ⟨w.heap.size,0,none⟩=some (.int .i64 a):=(hb1.cell (p:=⟨w.heap.size,0,none⟩) (by simp)).trans (by simp)
 have c1:w1.cell? ⟨w.heap.size,1,none⟩=some (.int .i64 b):=(hb1.cell (p:=⟨w.heap.size,1,none⟩) (by simp)).trans (by simp)
 go_wp2
 go_ret2
 refine⟨?_,((Below.refl _ _).alloc (Nat.le_refl _) _).trans (hb1.mono (by simp))⟩
 show Ending.returned (.tuple #[.int .i64 ((wrap64 (7*a+3*b+wrap64 (a*b))).tmod n),.int .i64 0])=_
 rw[H1.out]
theorem a2m(a b:Int)(n:Int)(w:World)(h:Ee a b=false) :
  Calls Tryz.prog 49 #[.agg #[.int .i64 a,.int .i64 b],.int .i64 n] w fun e w'=>e=.returned (.tuple #[.int .i64 0,.int .i64 3])/\Below w.heap.size w w':=by
 go_enter Tryz.func49,Tryz.ntmps49
 go_wp2_with (first|(go_at_call 96;refine(X8 _ _ _ h).mono ?_;rintro e w1 ⟨rfl,hb1⟩))
 go_ret2
 exact⟨rfl,((Below.refl _ _).alloc (Nat.le_refl _) _).trans (hb1.mono (by simp))⟩
theorem laid:laidOutB Tryz.prog=true:=by kernel_rfl
theorem b7r:(30:TypeId)<Tryz.prog.types.size:=of_decide_eq_true (by kernel_rfl)
theorem b9w:(match Tryz.prog.underlying 30 with|some (.array _ _)|some (.struct _)=>true|_=>false)=true:=by rw[Tryz.underlying30]
theorem b1d:Keyed Tryz.prog 30:=Keyed.of_law (deep_law_laid laid (m:=3) (by omega) b7r (by kernel_rfl) b9w)
theorem a2a:Tryz.prog.underlying 121=some (.map 30 3):=by kernel_rfl
theorem zero3(w:World):(zeroValue 3).run Tryz.prog w=.ok (.int .i64 0) w:=by kernel_rfl
theorem a7g:Tryz.prog.keyType 30=true:=by kernel_rfl
theorem a0z:Tryz.prog.cellsOf 30=2:=by kernel_rfl
theorem b5m:Tryz.prog.cellsOf 3=1:=by kernel_rfl
theorem ksize:∃ m,Tryz.prog.types.size=m+1:=by
 have h:0<Tryz.prog.types.size:=Nat.lt_of_le_of_lt (Nat.zero_le _) (show 30<Tryz.prog.types.size from b7r)
 exact⟨Tryz.prog.types.size - 1,by omega⟩
def kl(k:Int × Int):Lit:=.string (keyBytes [.int .i64 k.1,.int .i64 k.2])
theorem Su{a b:Int}(wa:(Lit.int .i64 a).wf=true)(wb:(Lit.int .i64 b).wf=true):keyOf Tryz.prog 30 (.agg #[.int .i64 a,.int .i64 b])=some (kl (a,b)):=by
 obtain⟨m,hm⟩:=ksize
 unfold keyOf
 simp only[Tryz.underlying30]
 rw[if_pos (by simp[a7g,Value.formed,Tryz.underlying30,a0z]),hm]
 unfold Program.keyLits
 simp only[Tryz.underlying30,Value.cells]
 rw[if_pos (by rw[a0z];exact⟨rfl,by kernel_rfl⟩)]
 simp[b5m,Program.keyLits,Tryz.underlying3,wa,wb,kl]
theorem N7{a b:Int}(h:Ee a b=true):(Lit.int .i64 a).wf=true/\(Lit.int .i64 b).wf=true:=by
 obtain⟨⟨h0,h1⟩,h2,h3⟩:=(Sr a b).1 h
 exact⟨wf64 (by omega) (by omega),wf64 (by omega) (by omega)⟩
theorem b8x{k k':Int × Int}(h:Ee k.1 k.2=true)(h':Ee k'.1 k'.2=true)(e:kl k=kl k'):k=k':=by
 have h1:=Su (N7 h).1 (N7 h).2
 have h2:=Su (N7 h').1 (N7 h').2
 have:(k.1,k.2)=k:=rfl
 rw[this] at h1
 have:(k'.1,k'.2)=k':=rfl
 rw[this,<- e] at h2
 have:=b1d.inj h1 h2
 simp at this
 exact Prod.ext this.1 this.2
def MapAt(M:Mm)(w:World)(g:Nat)(all:List Int):Prop :=
 ∃ n,n<=all.length/\∃ D:DataW Unit,w.ownsMap Tryz.prog 30 (plainElem Tryz.prog 3) g n D/\∀ k:Int × Int,Ee k.1 k.2=true->D.atKey (kl k) (.lit (.int .i64 0))=.lit (.int .i64 (a4n M all k))/\Maps.has D (kl k)=hasK M all k
theorem MapAt.made(M:Mm)(w:World):MapAt M (w.alloc (.map #[] 0)) w.heap.size [] :=
 ⟨0,Nat.le_refl _,_,World.ownsMap_made w Tryz.prog 30 _,fun k hk=>⟨by simp[a4n,DataW.atKey],by simp[hasK,Maps.has]⟩⟩
theorem MapAt.kept{M:Mm}{w w':World}{g:Nat}{l:List Int}(h:MapAt M w g l)(hb:w'.heap[g]?=w.heap[g]?):MapAt M w' g l:=by
 obtain⟨n,hn,D,⟨es,clock,hg,F,hs,hD⟩,hat⟩:=h
 exact⟨n,hn,D,⟨es,clock,hb.trans hg,F,hs,hD⟩,hat⟩
theorem MapAt.lt{M:Mm}{w:World}{g:Nat}{l:List Int}(h:MapAt M w g l):g<w.heap.size:=by
 obtain⟨n,hn,D,⟨es,clock,hg,F,hs,hD⟩,hat⟩:=h
 exact lt_of_block hg
theorem MapAt.look{M:Mm}{w:World}{g:Nat}{l:List Int}(h:MapAt M w g l){a b:Int}(hk:Ee a b=true):(Instr.lookup 121 (.map (some g)) (.agg #[.int .i64 a,.int .i64 b]) true).run Tryz.prog w=.ok (.tuple #[.int .i64 (a4n M l (a,b)),.bool (hasK M l (a,b))]) w:=by
 obtain⟨n,hn,D,ho,hat⟩:=h
 have hw0:(Lit.int .i64 0).wf=true:=by decide
 obtain⟨v,ps,hrun,hv⟩:=ho.look_ok b1d a2a (zero3 w) (plainElem_int Tryz.underlying3 hw0) (Su (N7 hk).1 (N7 hk).2)
 rw[(hat (a,b) hk).1] at hv
 obtain⟨c,rfl,hc,hwc⟩:=_root_.Go.plainElem_int_inv Tryz.underlying3 hv
 rw[hrun,(hat (a,b) hk).2]
 injection hc with h1 h2
 injection h1 with h1
 injection h1 with _ h1
 rw[h1]
theorem a9k{M:Mm}{l:List Int}{a:Int}{k:Int × Int}(h:hasK M l (keyAt M a)=false):a4n M (l ++ [a]) k=if k=keyAt M a then a else a4n M l k:=by
 unfold a4n
 rw[List.find?_append]
 by_cases e:k=keyAt M a
 ·subst e
  rw[if_pos rfl]
  have:l.find? (fun x=>keyAt M x==keyAt M a)=none:=by
   rw[List.find?_eq_none]
   intro x hx hh
   rw[beq_iff_eq] at hh
   have:=(Gq M l (keyAt M a)).2 (by rw[<- hh];exact List.mem_map_of_mem hx)
   rw[h] at this
   cases this
  rw[this]
  simp
 ·rw[if_neg e]
  have:[a].find? (fun x=>keyAt M x==k)=none:=by
   simp only[List.find?_cons,List.find?_nil]
   rw[show (keyAt M a==k)=false by simpa using fun hh=>e (Eq.symm hh)]
  rw[this]
  simp
theorem a6x(M:Mm)(l:List Int)(a:Int)(k:Int × Int):hasK M (l ++ [a]) k=(hasK M l k || decide (k=keyAt M a)):=by
 rw[Bool.eq_iff_iff,Gq,List.map_append,List.mem_append,Bool.or_eq_true,Gq]
 simp
theorem MapAt.put{M:Mm}{w':World}{g n:Nat}{l:List Int}{D:DataW Unit}{a:Int}(hn:n<=l.length)(ht:IsMap D)(hat:∀ k:Int × Int,Ee k.1 k.2=true->D.atKey (kl k) (.lit (.int .i64 0))=.lit (.int .i64 (a4n M l k))/\Maps.has D (kl k)=hasK M l k)
  (hk:Ee (A7 M a).a (A7 M a).b=true) (h0:hasK M l (keyAt M a)=false)
  (h:w'.ownsMap Tryz.prog 30 (plainElem Tryz.prog 3) g (n+1) (D.put (kl (keyAt M a)) (.lit (.int .i64 a)))):MapAt M w' g (l ++ [a]):=by
 refine⟨n+1,by simp;omega,_,h,fun k hk'=>?_⟩
 have hkl:WideAt.IsKeyLit (kl (keyAt M a)):=by simp[kl,WideAt.IsKeyLit]
 rw[a9k h0,a6x]
 by_cases e:k=keyAt M a
 ·subst e
  rw[atKey_put_same ht hkl,has_put_same ht hkl]
  simp
 ·have hne:kl k≠kl (keyAt M a):=fun hh=>e (b8x hk' hk hh)
  rw[atKey_put_other hne,has_put_other hne,(hat k hk').1,(hat k hk').2]
  simp[e]
end
section
open Go.ChangeShapes Go.WideShapes Go.ChangeAt Go.RowKit Go.Joins
def Sl.enc(s:Sl):List Value:=[O J s.refs,O J s.a,O J s.b,O J s.unt,.bool s.inn,O J s.next]
def encS(l:List Sl):List Value:=l.flatMap Sl.enc
def encI(l:List Int):List Value:=l.map (Value.int .i64)
theorem Fb(s:Sl)(l:List Sl):encS (s :: l)=s.enc++encS l:=by simp[encS]
theorem Jh(l:List Sl):(encS l).length=l.length*6:=by
 induction l with
 | nil=>rfl
 | cons s l ih=>rw[Fb,List.length_append,ih];simp[Sl.enc];omega
theorem Il(l:List Int):(encI l).length=l.length:=by simp[encI]
theorem Rq(l:List Sl)(i q:Nat)(h:i<l.length)(hq:q<6):(encS l)[i*6+q]?=(l[i].enc)[q]?:=by
 induction l generalizing i with
 | nil=>simp at h
 | cons s l ih =>
  rw[Fb]
  match i with
  | 0 =>
   rw[List.getElem?_append_left (by simp[Sl.enc];omega)]
   simp
  | i+1 =>
   rw[List.getElem?_append_right (by simp[Sl.enc];omega)]
   have hl:s.enc.length=6:=rfl
   rw[hl,show (i+1)*6+q - 6=i*6+q by omega,ih i (by simpa using h)]
   simp
theorem b0q(l:List Sl):∀ u∈encS l,u.oneCell'=true:=by
 intro u hu
 simp only[encS,List.mem_flatMap,Sl.enc,List.mem_cons,List.not_mem_nil,or_false] at hu
 obtain⟨s,_,h|h|h|h|h|h⟩:=hu <;> (subst h;rfl)
theorem a0i(l:List Int):∀ u∈encI l,u.oneCell'=true:=by
 intro u hu
 simp only[encI,List.mem_map] at hu
 obtain⟨s,_,rfl⟩:=hu;rfl
theorem Jy.flat{w:World}{b o cap:Nat}{S:List Sl}(r:Jy w (some ⟨b,o,none⟩) cap S):∀ j u,(encS S)[j]?=some u->w.cell? ((⟨b,o,none⟩:Addr).add j)=some u:=by
 intro j u hu
 have hj:j<S.length*6:=by
  rw[<- Jh]
  exact(List.getElem?_eq_some_iff.1 hu).1
 rcases r.at_ with h0|⟨b',o',e,hc⟩
 ·omega
 cases e
 have hi:j / 6<S.length:=by omega
 have e6:j / 6*6+j % 6=j:=by omega
 have hq:j % 6<6:=by omega
 obtain⟨c0,c1,c2,c3,c4,c5⟩:=hc (j / 6) hi
 rw[<- e6,Rq S _ _ hi hq] at hu
 rw[Addr.add_lit,<- e6]
 generalize j / 6=i at *
 generalize j % 6=q at *
 rw[<- Nat.add_assoc]
 simp only[Sl.enc] at hu
 match q,hq with
 | 0,_=>simp at hu;subst hu;exact c0
 | 1,_=>simp at hu;subst hu;exact c1
 | 2,_=>simp at hu;subst hu;exact c2
 | 3,_=>simp at hu;subst hu;exact c3
 | 4,_=>simp at hu;subst hu;exact c4
 | 5,_=>simp at hu;subst hu;exact c5
theorem Ea.flat{w:World}{b o cap:Nat}{l:List Int}(r:Ea w (some ⟨b,o,none⟩) cap l):∀ j u,(encI l)[j]?=some u->w.cell? ((⟨b,o,none⟩:Addr).add j)=some u:=by
 intro j u hu
 have hj:j<l.length:=by
  rw[<- Il]
  exact(List.getElem?_eq_some_iff.1 hu).1
 rcases r.at_ with h0|⟨b',o',e,hc⟩
 ·omega
 cases e
 simp only[encI,List.getElem?_map,List.getElem?_eq_getElem hj,Option.map_some,Option.some.injEq] at hu
 subst hu
 rw[Addr.add_lit]
 exact hc j hj
theorem Jy.src{w:World}{ao:Option Addr}{cap:Nat}{S:List Sl}(r:Jy w ao cap S):∀ ad,ao=some ad->∀ j u,(encS S)[j]?=some u->w.cell? (ad.add j)=some u:=by
 rintro ad rfl j u hu
 rcases r.at_ with h0|⟨b,o,e,hc⟩
 ·have:=(List.getElem?_eq_some_iff.1 hu).1
  rw[Jh] at this
  omega
 ·cases e
  exact r.flat j u hu
theorem Ea.src{w:World}{ao:Option Addr}{cap:Nat}{l:List Int}(r:Ea w ao cap l):∀ ad,ao=some ad->∀ j u,(encI l)[j]?=some u->w.cell? (ad.add j)=some u:=by
 rintro ad rfl j u hu
 rcases r.at_ with h0|⟨b,o,e,hc⟩
 ·have:=(List.getElem?_eq_some_iff.1 hu).1
  rw[Il] at this
  omega
 ·cases e
  exact r.flat j u hu
theorem Jy.P8{w:World}{b cap:Nat}{S:List Sl}(hl:S.length<=cap)(hm:S.length*48<=140737488351232)(hc:∀ j,j<S.length*6->w.cell? ⟨b,j,none⟩=(encS S)[j]?):Jy w (some ⟨b,0,none⟩) cap S:=by
 refine⟨hl,hm,(fun h=>by cases h),.inr ⟨b,0,rfl,fun i hi=>?_⟩⟩
 have e:∀ q,q<6->w.cell? ⟨b,0+i*6+q,none⟩=(S[i].enc)[q]?:=fun q hq=>by
  rw[Nat.zero_add,hc _ (by omega),Rq S i q hi hq]
 exact⟨e 0 (by omega),e 1 (by omega),e 2 (by omega),e 3 (by omega),e 4 (by omega),e 5 (by omega)⟩
theorem Ea.P8{w:World}{b cap:Nat}{l:List Int}(hl:l.length<=cap)(hm:l.length*8<=140737488351232)(hc:∀ j,j<l.length->w.cell? ⟨b,j,none⟩=(encI l)[j]?):Ea w (some ⟨b,0,none⟩) cap l:=by
 refine⟨hl,hm,(fun h=>by cases h),.inr ⟨b,0,rfl,fun i hi=>?_⟩⟩
 rw[Nat.zero_add,hc i hi]
 simp[encI,hi]
theorem Jy.Lj{w:World}{base n:Nat}{v:Value}{S:List Sl}(h:w.ownsRow base 64 6 v n (encS S))(hm:S.length*48<=140737488351232):∃ ao cap,v=Y ao S.length cap/\Jy w ao cap S:=by
 have hl:=h.1
 rw[Jh] at hl
 have hn:S.length=n:=by omega
 subst hn
 rcases h.2 with ⟨rfl,h0⟩|⟨g,cap,cur,rfl,hg,hb,hc,-,hs,ht⟩
 ·exact⟨none,0,by rw[h0],by omega,hm,fun _=>rfl,.inl h0⟩
 ·exact⟨_,_,rfl,.P8 hc hm fun j hj=>h.cellAt j hj⟩
theorem Ea.Lj{w:World}{base n:Nat}{v:Value}{l:List Int}(h:w.ownsRow base 3 1 v n (encI l))(hm:l.length*8<=140737488351232):∃ ao cap,v=Y ao l.length cap/\Ea w ao cap l:=by
 have hl:=h.1
 rw[Il] at hl
 have hn:l.length=n:=by omega
 subst hn
 rcases h.2 with ⟨rfl,h0⟩|⟨g,cap,cur,rfl,hg,hb,hc,-,hs,ht⟩
 ·exact⟨none,0,by rw[h0],by omega,hm,fun _=>rfl,.inl h0⟩
 ·exact⟨_,_,rfl,.P8 hc hm fun j hj=>h.cellAt j (by omega)⟩
theorem iI:(Tryz.prog.info? 3).map (fun i=>(i.zero,i.size,i.bytes))=some (some (O J 0),1,8):=by kernel_rfl
theorem iS:(Tryz.prog.info? 64).map (fun i=>(i.zero,i.size,i.bytes))=some (some (.agg #[O J 0,O J 0,O J 0,O J 0,.bool false,O J 0]),6,48):=by kernel_rfl
theorem own_below{w w':World}{lo size n:Nat}{e:TypeId}{v:Value}{xs:List Value}(h:w.ownsRow lo e size v n xs)(hb:Below w.heap.size w w'):w'.ownsRow lo e size v n xs :=
 h.kept (row:=none) ⟨hb.os,hb.tape,hb.output,hb.size,fun k hk _=>hb.block k hk⟩ (by cases hv:v.ownBlock <;> simp)
set_option maxHeartbeats 800000 in
theorem a3d(ad:Addr)(cap:Nat)(l:List Int)(w:World)(r:Ea w (some ad) cap l) :
  Calls Tryz.prog 103 #[Y (some ad) l.length cap] w fun e w'=>e=.returned (Y (some ⟨w.heap.size,0,none⟩) l.length l.length)/\w'.ownsRow w.heap.size 3 1 (Y (some ⟨w.heap.size,0,none⟩) l.length l.length) l.length (encI l)/\Below w.heap.size w w':=by
 obtain⟨i0,hi,hz0,hz1,hz2⟩:=info_parts iI
 have m1:=r.max
 have m2:=r.le
 have HS:Hid _:=r.src
 have HN:Hid _:=r.nil
 clear r
 have q24:∀ (w:World) (a:Option Addr) (n c:Nat),(binOp .eql 23 (Y a n c) (Y none 0 0)).run Tryz.prog w=.ok (.bool a.isNone) w:=fun w a n c=>Lib.run_eql_slice_nil w _ _ a n c 0 0 Tryz.underlying23
 go_enter Tryz.func103,Tryz.ntmps103
 go_wp2_with (first
  | (at_make;refine wpList_make_own _ rfl _ _ 23 rfl w.heap.size 3 i0 (O J 0) 1 Tryz.underlying23 hi hz0 hz1 .i64 .i64 _ l.length rfl rfl rfl (by rw[hz2];omega) (by unfold maxLen;omega) (Nat.le_refl _) ?_;intro w1 hown hgrow)
  | (at_builtin;refine wpList_append_fits_any _ rfl _ _ 23 rfl w.heap.size 3 i0 1 Tryz.underlying23 hi hz1 w.heap.size 0 l.length _ rfl hown (some ad) l.length cap (encI l) rfl (by rw[Il];omega) (fun h=>by have:=HN.out h;omega) (fun ad h j u hj=>hgrow.cell (HS.out ad h j u hj) (by intro hh;cases hh)) (a0i l) (by omega) ?_;intro w2 hown2 hgrow2))
 go_ret
 simp only[Nat.zero_add,List.nil_append] at hown2
 refine⟨by simp,hown2,?_⟩
 have:=((Below.refl w.heap.size w).grown hgrow (Nat.le_refl _) (fun k h=>by cases h))
 exact this.grown hgrow2 hgrow.size (fun k h=>by cases h;exact Nat.le_refl _)
set_option maxHeartbeats 800000 in
theorem a3f(ad:Addr)(cap:Nat)(l:List Sl)(w:World)(r:Jy w (some ad) cap l) :
  Calls Tryz.prog 141 #[Y (some ad) l.length cap] w fun e w'=>e=.returned (Y (some ⟨w.heap.size,0,none⟩) l.length l.length)/\w'.ownsRow w.heap.size 64 6 (Y (some ⟨w.heap.size,0,none⟩) l.length l.length) l.length (encS l)/\Below w.heap.size w w':=by
 obtain⟨i0,hi,hz0,hz1,hz2⟩:=info_parts iS
 have m1:=r.max
 have m2:=r.le
 have HS:Hid _:=r.src
 have HN:Hid _:=r.nil
 clear r
 have q27:∀ (w:World) (a:Option Addr) (n c:Nat),(binOp .eql 22 (Y a n c) (Y none 0 0)).run Tryz.prog w=.ok (.bool a.isNone) w:=fun w a n c=>Lib.run_eql_slice_nil w _ _ a n c 0 0 Tryz.underlying22
 go_enter Tryz.func141,Tryz.ntmps141
 go_wp2_with (first
  | (at_make;refine wpList_make_own _ rfl _ _ 22 rfl w.heap.size 64 i0 (.agg #[O J 0,O J 0,O J 0,O J 0,.bool false,O J 0]) 6 Tryz.underlying22 hi hz0 hz1 .i64 .i64 _ l.length rfl rfl rfl (by rw[hz2];omega) (by unfold maxLen;omega) (Nat.le_refl _) ?_;intro w1 hown hgrow)
  | (at_builtin;refine wpList_append_fits_any _ rfl _ _ 22 rfl w.heap.size 64 i0 6 Tryz.underlying22 hi hz1 w.heap.size 0 l.length _ rfl hown (some ad) l.length cap (encS l) rfl (Jh l) (fun h=>by have:=HN.out h;omega) (fun ad h j u hj=>hgrow.cell (HS.out ad h j u hj) (by intro hh;cases hh)) (b0q l) (by omega) ?_;intro w2 hown2 hgrow2))
 go_ret
 simp only[Nat.zero_add,List.nil_append] at hown2
 refine⟨by simp,hown2,?_⟩
 have:=((Below.refl w.heap.size w).grown hgrow (Nat.le_refl _) (fun k h=>by cases h))
 exact this.grown hgrow2 hgrow.size (fun k h=>by cases h;exact Nat.le_refl _)
theorem a3c(w:World):Calls Tryz.prog 103 #[Y none 0 0] w fun e w'=>e=.returned (Y none 0 0)/\w=w':=by
 have q24:∀ (w:World) (a:Option Addr) (n c:Nat),(binOp .eql 23 (Y a n c) (Y none 0 0)).run Tryz.prog w=.ok (.bool a.isNone) w:=fun w a n c=>Lib.run_eql_slice_nil w _ _ a n c 0 0 Tryz.underlying23
 go_enter Tryz.func103,Tryz.ntmps103
 go_wp2
 go_ret
 exact⟨rfl,rfl⟩
theorem a3e(w:World):Calls Tryz.prog 141 #[Y none 0 0] w fun e w'=>e=.returned (Y none 0 0)/\w=w':=by
 have q27:∀ (w:World) (a:Option Addr) (n c:Nat),(binOp .eql 22 (Y a n c) (Y none 0 0)).run Tryz.prog w=.ok (.bool a.isNone) w:=fun w a n c=>Lib.run_eql_slice_nil w _ _ a n c 0 0 Tryz.underlying22
 go_enter Tryz.func141,Tryz.ntmps141
 go_wp2
 go_ret
 exact⟨rfl,rfl⟩
theorem Px(ao:Option Addr)(cap:Nat)(l:List Int)(w:World)(r:Ea w ao cap l) :
  Calls Tryz.prog 103 #[Y ao l.length cap] w fun e w'=>∃ a c,e=.returned (Y a l.length c)/\w'.ownsRow w.heap.size 3 1 (Y a l.length c) l.length (encI l)/\Below w.heap.size w w':=by
 cases ao with
 | some ad =>
  refine(a3d ad cap l w r).mono ?_
  rintro e w' ⟨rfl,h1,h2⟩
  exact⟨_,_,rfl,h1,h2⟩
 | none =>
  have hc:=r.nil rfl
  have hl:l=[]:=List.eq_nil_of_length_eq_zero (by have:=r.le;omega)
  subst hc hl
  refine(a3c w).mono ?_
  rintro e w' ⟨rfl,rfl⟩
  exact⟨_,_,rfl,World.ownsRow_nil _ _ _ _,Below.refl _ _⟩
theorem a7o(ao:Option Addr)(cap:Nat)(l:List Sl)(w:World)(r:Jy w ao cap l) :
  Calls Tryz.prog 141 #[Y ao l.length cap] w fun e w'=>∃ a c,e=.returned (Y a l.length c)/\w'.ownsRow w.heap.size 64 6 (Y a l.length c) l.length (encS l)/\Below w.heap.size w w':=by
 cases ao with
 | some ad =>
  refine(a3f ad cap l w r).mono ?_
  rintro e w' ⟨rfl,h1,h2⟩
  exact⟨_,_,rfl,h1,h2⟩
 | none =>
  have hc:=r.nil rfl
  have hl:l=[]:=List.eq_nil_of_length_eq_zero (by have:=r.le;omega)
  subst hc hl
  refine(a3e w).mono ?_
  rintro e w' ⟨rfl,rfl⟩
  exact⟨_,_,rfl,World.ownsRow_nil _ _ _ _,Below.refl _ _⟩
end
section
open Go.ChangeShapes Go.WideShapes Go.ChangeAt Go.RowKit Go.Joins
structure Ex where
 rs:List Value
 rt:TypeId
 ne:∀ t ∈ [(3:TypeId),64 ,30 ,47 ,61 ],t≠rt
variable {Xb:Ex}
@[reducible] def X0:Ex:=⟨[],25,by decide⟩
theorem Aj{w:World}{B:Nat}{v0 v1 v2 v3 v4:Value}{rs:List Value}{t:TypeId}(h:w.heap[B]?=some (.cells (List.toArray (v0 :: v1 :: v2 :: v3 :: v4 :: rs)) t (0,0))) :
  w.cell? ⟨B,0,none⟩=some v0/\w.cell? ⟨B,1,none⟩=some v1/\w.cell? ⟨B,2,none⟩=some v2/\w.cell? ⟨B,3,none⟩=some v3/\w.cell? ⟨B,4,none⟩=some v4 /\
  w.frozen? ⟨B,0,none⟩=false/\w.frozen? ⟨B,1,none⟩=false/\w.frozen? ⟨B,2,none⟩=false/\w.frozen? ⟨B,3,none⟩=false/\w.frozen? ⟨B,4,none⟩=false/\B<w.heap.size :=
 ⟨by rw[cell_of_block h];rfl,by rw[cell_of_block h];rfl,by rw[cell_of_block h];rfl,by rw[cell_of_block h];rfl,by rw[cell_of_block h];rfl,
  unfrozen_of_block h _,unfrozen_of_block h _,unfrozen_of_block h _,unfrozen_of_block h _,unfrozen_of_block h _,lt_of_block h⟩
def Dj(v v':Value):Prop:=∀ g,v.ownBlock=some g->v'.ownBlock≠some g
theorem Dj.symm{v v':Value}(h:Dj v v'):Dj v' v:=fun g e e'=>h g e' e
theorem D9{w:World}{lo size n:Nat}{e:TypeId}{v:Value}{xs:List Value}(h:w.ownsRow lo e size v n xs):∃ ao cap,v=Y ao n cap:=by
 rcases ownsRow_forms h with ⟨rfl,rfl⟩|⟨g,cap,rfl⟩
 ·exact⟨_,_,rfl⟩
 ·exact⟨_,_,rfl⟩
theorem a3l{w:World}{lo size n g:Nat}{e:TypeId}{v:Value}{xs:List Value}(h:w.ownsRow lo e size v n xs)(hg:v.ownBlock=some g):∃ cur,w.heap[g]?=some (.cells cur e (0,0)):=by
 rcases h.2 with ⟨rfl,_⟩|⟨g',cap,cur,rfl,_,hb,_⟩
 ·cases hg
 ·cases hg
  exact⟨_,hb⟩
theorem own_ne{w:World}{lo size n B:Nat}{e t:TypeId}{v:Value}{xs:List Value}{cs:Array Value}(h:w.ownsRow lo e size v n xs)(hB:w.heap[B]?=some (.cells cs t (0,0)))(ne:e≠t):v.ownBlock≠some B:=by
 intro hg
 obtain⟨cur,hc⟩:=a3l h hg
 rw[hB] at hc
 injection hc with hc
 injection hc with _ hc
 exact ne hc.symm
theorem I5{w:World}{lo size n lo' size' n':Nat}{e e':TypeId}{v v':Value}{xs xs':List Value}(h:w.ownsRow lo e size v n xs)(h':w.ownsRow lo' e' size' v' n' xs')(ne:e≠e'):Dj v v':=by
 intro g hg hg'
 obtain⟨cur,hc⟩:=a3l h hg
 exact own_ne h' hc (Ne.symm ne) hg'
theorem Dj.grown{w:World}{v u u':Value}(h:Dj v u)(hv:∀ g,v.ownBlock=some g->g<w.heap.size)(hloc:u'.ownBlock=u.ownBlock\/u'.ownBlock=some w.heap.size):Dj v u':=by
 intro g hg hg'
 rcases hloc with e|e
 ·exact h g hg (e ▸ hg')
 ·have:=hv g hg
  rw[e] at hg'
  injection hg' with hg'
  omega
theorem Dj.ne{v u:Value}(h:Dj v u):v.ownBlock=none\/v.ownBlock≠u.ownBlock:=by
 cases hv:v.ownBlock with
 | none=>exact .inl rfl
 | some g=>exact .inr (fun e=>h g hv e.symm)
theorem U5{a b:Option Addr}{n c m d n' c' m' d':Nat}(h:Dj (Y a n c) (Y b m d)):Dj (Y a n' c') (Y b m' d'):=by
 cases a <;> cases b <;> exact h
structure Hi4(lo:Nat)(aS aH aF aL:Option Addr):Prop where
 s:∀ ad,aS=some ad->lo<=ad.block
 h:∀ ad,aH=some ad->lo<=ad.block
 f:∀ ad,aF=some ad->lo<=ad.block
 l:∀ ad,aL=some ad->lo<=ad.block
theorem b5j{lo g:Nat}(h:lo<=g):∀ ad,(some ⟨g,0,none⟩:Option Addr)=some ad->lo<=ad.block:=by
 rintro ad ⟨⟩
 exact h
def Ans(lo:Nat)(w:World)(v:Value)(M:Mm):Prop :=
 ∃ aS aH aF aL cS cH cF cL,v=.agg #[Y aS M.slots.length cS,Y aH M.heads.length cH,Y aF M.free.length cF,Y aL M.locks.length cL,O J M.now]/\At w aS aH aF aL cS cH cF cL M/\Hi4 lo aS aH aF aL
theorem Hi4.mono{lo lo':Nat}{aS aH aF aL:Option Addr}(h:Hi4 lo aS aH aF aL)(hl:lo'<=lo):Hi4 lo' aS aH aF aL :=
 ⟨fun a e=>Nat.le_trans hl (h.s a e),fun a e=>Nat.le_trans hl (h.h a e),fun a e=>Nat.le_trans hl (h.f a e),fun a e=>Nat.le_trans hl (h.l a e)⟩
theorem Ans.below{lo:Nat}{w w':World}{v:Value}{M:Mm}(h:Ans lo w v M)(hb:Below w.heap.size w w'):Ans lo w' v M:=by
 obtain⟨aS,aH,aF,aL,cS,cH,cF,cL,e,A,hi⟩:=h
 exact⟨aS,aH,aF,aL,cS,cH,cF,cL,e,A.below hb,hi⟩
theorem Ans.mono{lo lo':Nat}{w:World}{v:Value}{M:Mm}(h:Ans lo w v M)(hl:lo'<=lo):Ans lo' w v M:=by
 obtain⟨aS,aH,aF,aL,cS,cH,cF,cL,e,A,hi⟩:=h
 exact⟨aS,aH,aF,aL,cS,cH,cF,cL,e,A,hi.mono hl⟩
def Jt(w:World)(g:Nat)(v0 v1 v2 v3 v4:Value):World :=
 ((((w.setCell ⟨g,0,none⟩ v0).setCell ⟨g,1,none⟩ v1).setCell ⟨g,2,none⟩ v2).setCell ⟨g,3,none⟩ v3).setCell ⟨g,4,none⟩ v4
theorem a3s{w:World}{g:Nat}{u0 u1 u2 u3 u4:Value}{rs:List Value}{t:TypeId}(h:w.heap[g]?=some (.cells (List.toArray (u0 :: u1 :: u2 :: u3 :: u4 :: rs)) t (0,0)))(v0 v1 v2 v3 v4:Value):(Jt w g v0 v1 v2 v3 v4).heap[g]?=some (.cells (List.toArray (v0 :: v1 :: v2 :: v3 :: v4 :: rs)) t (0,0)):=by
 have:=block_setCell (i:=4) (block_setCell (i:=3) (block_setCell (i:=2) (block_setCell (i:=1) (block_setCell (i:=0) h v0) v1) v2) v3) v4
 rw[Jt,this]
 simp
theorem Xk{w:World}{g k:Nat}{v0 v1 v2 v3 v4:Value}(h:k≠g):(Jt w g v0 v1 v2 v3 v4).heap[k]?=w.heap[k]?:=by
 unfold Jt
 repeat rw[Below.heap_setCell _ _ _ _ (by dsimp only;exact h)]
theorem Qw(w:World)(g B:Nat)(v0 v1 v2 v3 v4:Value)(h:B<=g):Below B w (Jt w g v0 v1 v2 v3 v4):=by
 unfold Jt
 iterate 5 (refine Below.setCell ?_ (by dsimp only;exact h) _)
 exact Below.refl _ _
theorem Z5(w:World)(g:Nat)(v0 v1 v2 v3 v4:Value):(Jt w g v0 v1 v2 v3 v4).heap.size=w.heap.size:=by simp[Jt]
theorem Tt{w:World}{lo size n g:Nat}{e:TypeId}{v:Value}{xs:List Value}(h:w.ownsRow lo e size v n xs)(hne:v.ownBlock≠some g)(v0 v1 v2 v3 v4:Value):(Jt w g v0 v1 v2 v3 v4).ownsRow lo e size v n xs:=by
 unfold Jt
 iterate 5 (refine ownsRow_setCell_other ?_ hne _)
 exact h
theorem Jy.off{w w':World}{ao:Option Addr}{cap:Nat}{l:List Sl}(r:Jy w ao cap l)(g:Nat)(hg:∀ ad,ao=some ad->ad.block≠g)(h:∀ k,k≠g->w'.heap[k]?=w.heap[k]?):Jy w' ao cap l:=by
 refine⟨r.le,r.max,r.nil,?_⟩
 rcases r.at_ with h0|⟨b,o,e,hc⟩
 ·exact .inl h0
 ·by_cases h0:l.length=0
  ·exact .inl h0
  refine .inr ⟨b,o,e,fun i hi=>?_⟩
  have q:∀ x,w'.cell? ⟨b,x,none⟩=w.cell? ⟨b,x,none⟩:=fun x=>World.cell?_of_block (a:=⟨b,x,none⟩) (h b (hg _ e))
  rw[q,q,q,q,q,q]
  exact hc i hi
theorem Ea.off{w w':World}{ao:Option Addr}{cap:Nat}{l:List Int}(r:Ea w ao cap l)(g:Nat)(hg:∀ ad,ao=some ad->ad.block≠g)(h:∀ k,k≠g->w'.heap[k]?=w.heap[k]?):Ea w' ao cap l:=by
 refine⟨r.le,r.max,r.nil,?_⟩
 rcases r.at_ with h0|⟨b,o,e,hc⟩
 ·exact .inl h0
 ·by_cases h0:l.length=0
  ·exact .inl h0
  refine .inr ⟨b,o,e,fun i hi=>?_⟩
  rw[World.cell?_of_block (a:=⟨b,o+i,none⟩) (h b (hg _ e))]
  exact hc i hi
theorem At.off{w w':World}{aS aH aF aL:Option Addr}{cS cH cF cL lo g:Nat}{M:Mm}(A:At w aS aH aF aL cS cH cF cL M)(hi:Hi4 lo aS aH aF aL)(hg:g<lo)(h:∀ k,k≠g->w'.heap[k]?=w.heap[k]?):At w' aS aH aF aL cS cH cF cL M :=
 ⟨A.s.off g (fun ad e=>by have:=hi.s ad e;omega) h,A.h.off g (fun ad e=>by have:=hi.h ad e;omega) h,A.f.off g (fun ad e=>by have:=hi.f ad e;omega) h,A.l.off g (fun ad e=>by have:=hi.l ad e;omega) h⟩
structure Rw(w:World)(lo:Nat)(aS aH aF aL:Option Addr)(cS cH cF cL:Nat)(M:Mm):Prop where
 s:w.ownsRow lo 64 6 (Y aS M.slots.length cS) M.slots.length (encS M.slots)
 h:w.ownsRow lo 3 1 (Y aH M.heads.length cH) M.heads.length (encI M.heads)
 f:w.ownsRow lo 3 1 (Y aF M.free.length cF) M.free.length (encI M.free)
 l:w.ownsRow lo 3 1 (Y aL M.locks.length cL) M.locks.length (encI M.locks)
 hf:Dj (Y aH M.heads.length cH) (Y aF M.free.length cF)
 hl:Dj (Y aH M.heads.length cH) (Y aL M.locks.length cL)
 fl:Dj (Y aF M.free.length cF) (Y aL M.locks.length cL)
 lz:lo<=w.heap.size
theorem Rw.below{w w':World}{lo:Nat}{aS aH aF aL:Option Addr}{cS cH cF cL:Nat}{M:Mm}(r:Rw w lo aS aH aF aL cS cH cF cL M)(hb:Below w.heap.size w w'):Rw w' lo aS aH aF aL cS cH cF cL M :=
 ⟨own_below r.s hb,own_below r.h hb,own_below r.f hb,own_below r.l hb,r.hf,r.hl,r.fl,Nat.le_trans r.lz hb.size⟩
theorem Rw.Jt{w:World}{lo B:Nat}{aS aH aF aL:Option Addr}{cS cH cF cL:Nat}{M:Mm}{cs:Array Value}(r:Rw w lo aS aH aF aL cS cH cF cL M)(hB:w.heap[B]?=some (.cells cs Xb.rt (0,0)))(v0 v1 v2 v3 v4:Value):Rw (mm.Jt w B v0 v1 v2 v3 v4) lo aS aH aF aL cS cH cF cL M :=
 ⟨Tt r.s (own_ne r.s hB (by first|decide|exact Ex.ne _ _ (by decide))) _ _ _ _ _,Tt r.h (own_ne r.h hB (by first|decide|exact Ex.ne _ _ (by decide))) _ _ _ _ _,Tt r.f (own_ne r.f hB (by first|decide|exact Ex.ne _ _ (by decide))) _ _ _ _ _,Tt r.l (own_ne r.l hB (by first|decide|exact Ex.ne _ _ (by decide))) _ _ _ _ _,r.hf,r.hl,r.fl,by rw[Z5];exact r.lz⟩
theorem Jy.own{w:World}{lo n cap:Nat}{ao:Option Addr}{S:List Sl}(h:w.ownsRow lo 64 6 (Y ao n cap) n (encS S))(hm:S.length*48<=140737488351232):Jy w ao cap S:=by
 obtain⟨a,c,e,r⟩:=Jy.Lj h hm
 injection e with e1 e2 e3
 subst e1 e3
 exact r
theorem Ea.own{w:World}{lo n cap:Nat}{ao:Option Addr}{l:List Int}(h:w.ownsRow lo 3 1 (Y ao n cap) n (encI l))(hm:l.length*8<=140737488351232):Ea w ao cap l:=by
 obtain⟨a,c,e,r⟩:=Ea.Lj h hm
 injection e with e1 e2 e3
 subst e1 e3
 exact r
theorem Xg{w:World}{lo size n m cap:Nat}{ao:Option Addr}{e:TypeId}{xs:List Value}(h:w.ownsRow lo e size (Y ao m cap) n xs):∀ ad,ao=some ad->lo<=ad.block:=by
 rintro ad rfl
 exact(h.lt ad.block rfl).1
theorem Rw.hi{w:World}{lo:Nat}{aS aH aF aL:Option Addr}{cS cH cF cL:Nat}{M:Mm}(r:Rw w lo aS aH aF aL cS cH cF cL M):Hi4 lo aS aH aF aL :=
 ⟨Xg r.s,Xg r.h,Xg r.f,Xg r.l⟩
theorem Rw.at{w:World}{lo:Nat}{aS aH aF aL:Option Addr}{cS cH cF cL:Nat}{M:Mm}(r:Rw w lo aS aH aF aL cS cH cF cL M)
  (m1:M.slots.length*48<=140737488351232) (m2:M.heads.length*8<=140737488351232) (m3:M.free.length*8<=140737488351232) (m4:M.locks.length*8<=140737488351232):At w aS aH aF aL cS cH cF cL M :=
 ⟨.own r.s m1,.own r.h m2,.own r.f m3,.own r.l m4⟩
structure Mine(Xb:Ex)(w:World)(B lo:Nat)(aS aH aF aL:Option Addr)(cS cH cF cL:Nat)(M:Mm):Prop where
 box:w.heap[B]?=some (.cells (List.toArray (Y aS M.slots.length cS :: Y aH M.heads.length cH :: Y aF M.free.length cF :: Y aL M.locks.length cL :: O J M.now :: Xb.rs)) Xb.rt (0,0))
 c:Rw w lo aS aH aF aL cS cH cF cL M
 m1:M.slots.length*48<=140737488351232
 m2:M.heads.length*8<=140737488351232
 m3:M.free.length*8<=140737488351000
 m4:M.locks.length*8<=140737488351232
theorem Mine.at{w:World}{B lo:Nat}{aS aH aF aL:Option Addr}{cS cH cF cL:Nat}{M:Mm}(m:Mine Xb w B lo aS aH aF aL cS cH cF cL M):At w aS aH aF aL cS cH cF cL M :=
 m.c.at m.m1 m.m2 (by have:=m.m3;omega) m.m4
theorem Mine.below{w w':World}{B lo:Nat}{aS aH aF aL:Option Addr}{cS cH cF cL:Nat}{M:Mm}(m:Mine Xb w B lo aS aH aF aL cS cH cF cL M)(hb:Below w.heap.size w w'):Mine Xb w' B lo aS aH aF aL cS cH cF cL M :=
 ⟨(hb.block _ (lt_of_block m.box)).trans m.box,m.c.below hb,m.m1,m.m2,m.m3,m.m4⟩
structure Kept(w w':World)(B lo:Nat):Prop where
 os:w'.os=w.os
 tape:w'.tape=w.tape
 output:w'.output=w.output
 size:w.heap.size<=w'.heap.size
 block:∀ k,k<lo->k≠B->w'.heap[k]?=w.heap[k]?
theorem Kept.trans{w w1 w2:World}{B lo:Nat}(h:Kept w w1 B lo)(h':Kept w1 w2 B lo):Kept w w2 B lo :=
 ⟨h'.os.trans h.os,h'.tape.trans h.tape,h'.output.trans h.output,Nat.le_trans h.size h'.size,fun k h1 h2=>(h'.block k h1 h2).trans (h.block k h1 h2)⟩
theorem Kept.of_below{w w':World}{B lo n:Nat}(hb:Below n w w')(h:lo<=n):Kept w w' B lo:=⟨hb.os,hb.tape,hb.output,hb.size,fun k h1 h2=>hb.block k (by omega)⟩
theorem Kept.a3u{w w1:World}{B lo j:Nat}(h:Kept w w1 B lo)(v:Value):Kept w (w1.setCell ⟨B,j,none⟩ v) B lo :=
 h.trans ⟨rfl,rfl,rfl,by simp,fun k h1 h2=>Below.heap_setCell _ _ _ _ (by dsimp only;exact h2)⟩
theorem Kept.down{w w1:World}{B lo:Nat}(h:Kept w w1 B lo){n:Nat}(h1:n<=lo)(h2:n<=B):Below n w w1 :=
 ⟨h.os,h.tape,h.output,h.size,fun k hk=>h.block k (by omega) (by omega)⟩
theorem Mine.a1q{w:World}{B lo g:Nat}{aH aF aL:Option Addr}{cS cH cF cL:Nat}{M:Mm}(m:Mine Xb w B lo (some ⟨g,0,none⟩) aH aF aL cS cH cF cL M)(j:Nat)(u:Value)(S':List Sl)(hS:(encS M.slots).set j u=encS S') :
  Mine Xb (w.setCell ⟨g,j,none⟩ u) B lo (some ⟨g,0,none⟩) aH aF aL cS cH cF cL { M with slots:=S' }:=by
 have hl:S'.length=M.slots.length:=by
  have:=congrArg List.length hS
  rw[List.length_set,Jh,Jh] at this
  omega
 obtain⟨hB,⟨s,h,f,l,hf,hl',fl,lz⟩,m1,m2,m3,m4⟩:=m
 have hg:(Value.slice (some ⟨g,0,none⟩) M.slots.length cS).ownBlock=some g:=rfl
 have ne:∀ {v:Value} {n:Nat} {xs:List Value},w.ownsRow lo 3 1 v n xs->v.ownBlock≠some g:=fun h e=>I5 h s (by first|decide|exact Ex.ne _ _ (by decide)) g e hg
 refine⟨?_,⟨?_,ownsRow_setCell_other h (ne h) u,ownsRow_setCell_other f (ne f) u,ownsRow_setCell_other l (ne l) u,hf,hl',fl,by rw[World.size_setCell];exact lz⟩,by dsimp only;omega,m2,m3,m4⟩
 ·dsimp only
  rw[Below.heap_setCell _ _ _ _ (by dsimp only;intro e;exact own_ne s hB (by first|decide|exact Ex.ne _ _ (by decide)) (by rw[hg,e])),hl]
  exact hB
 ·dsimp only
  rw[hl,<- hS]
  exact(s.stored j u).1
theorem Mine.setH{w:World}{B lo g:Nat}{aS aF aL:Option Addr}{cS cH cF cL:Nat}{M:Mm}(m:Mine Xb w B lo aS (some ⟨g,0,none⟩) aF aL cS cH cF cL M)(j:Nat)(x:Int) :
  Mine Xb (w.setCell ⟨g,j,none⟩ (O J x)) B lo aS (some ⟨g,0,none⟩) aF aL cS cH cF cL { M with heads:=M.heads.set j x }:=by
 obtain⟨hB,⟨s,h,f,l,hf,hl,fl,lz⟩,m1,m2,m3,m4⟩:=m
 have hg:(Value.slice (some ⟨g,0,none⟩) M.heads.length cH).ownBlock=some g:=rfl
 have ns:(Value.slice aS M.slots.length cS).ownBlock≠some g:=fun e=>I5 s h (by first|decide|exact Ex.ne _ _ (by decide)) g e hg
 refine⟨?_,⟨ownsRow_setCell_other s ns _,?_,ownsRow_setCell_other f (fun e=>hf g hg e) _,ownsRow_setCell_other l (fun e=>hl g hg e) _,U5 hf,U5 hl,fl,by rw[World.size_setCell];exact lz⟩,m1,by dsimp only;rw[List.length_set];exact m2,m3,m4⟩
 ·dsimp only
  rw[Below.heap_setCell _ _ _ _ (by dsimp only;intro e;exact own_ne h hB (by first|decide|exact Ex.ne _ _ (by decide)) (by rw[hg,e])),List.length_set]
  exact hB
 ·dsimp only
  have e:encI (M.heads.set j x)=(encI M.heads).set j (O J x):=by simp[encI,List.map_set]
  rw[List.length_set,e]
  exact(h.stored j _).1
theorem Mine.Xl{w:World}{B lo g:Nat}{aS aH aF:Option Addr}{cS cH cF cL:Nat}{M:Mm}(m:Mine Xb w B lo aS aH aF (some ⟨g,0,none⟩) cS cH cF cL M)(j:Nat)(x:Int) :
  Mine Xb (w.setCell ⟨g,j,none⟩ (O J x)) B lo aS aH aF (some ⟨g,0,none⟩) cS cH cF cL { M with locks:=M.locks.set j x }:=by
 obtain⟨hB,⟨s,h,f,l,hf,hl,fl,lz⟩,m1,m2,m3,m4⟩:=m
 have hg:(Value.slice (some ⟨g,0,none⟩) M.locks.length cL).ownBlock=some g:=rfl
 have ns:(Value.slice aS M.slots.length cS).ownBlock≠some g:=fun e=>I5 s l (by first|decide|exact Ex.ne _ _ (by decide)) g e hg
 refine⟨?_,⟨ownsRow_setCell_other s ns _,ownsRow_setCell_other h (fun e=>hl g e hg) _,ownsRow_setCell_other f (fun e=>fl g e hg) _,?_,hf,U5 hl,U5 fl,by rw[World.size_setCell];exact lz⟩,m1,m2,m3,by dsimp only;rw[List.length_set];exact m4⟩
 ·dsimp only
  rw[Below.heap_setCell _ _ _ _ (by dsimp only;intro e;exact own_ne l hB (by first|decide|exact Ex.ne _ _ (by decide)) (by rw[hg,e])),List.length_set]
  exact hB
 ·dsimp only
  have e:encI (M.locks.set j x)=(encI M.locks).set j (O J x):=by simp[encI,List.map_set]
  rw[List.length_set,e]
  exact(l.stored j _).1
theorem Mine.pop{w:World}{B lo g n:Nat}{aS aH aL:Option Addr}{cS cH cF cL:Nat}{M:Mm}(m:Mine Xb w B lo aS aH (some ⟨g,0,none⟩) aL cS cH cF cL M)(hn:M.free.length=n+1) :
  Mine Xb (w.setCell ⟨B,2,none⟩ (Y (some ⟨g,0,none⟩) n cF)) B lo aS aH (some ⟨g,0,none⟩) aL cS cH cF cL { M with free:=M.free.take n }:=by
 obtain⟨hB,⟨s,h,f,l,hf,hl,fl,lz⟩,m1,m2,m3,m4⟩:=m
 have hlen:(M.free.take n).length=n:=by rw[List.length_take];omega
 refine⟨?_,⟨ownsRow_setCell_other s (own_ne s hB (by first|decide|exact Ex.ne _ _ (by decide))) _,ownsRow_setCell_other h (own_ne h hB (by first|decide|exact Ex.ne _ _ (by decide))) _,?_,ownsRow_setCell_other l (own_ne l hB (by first|decide|exact Ex.ne _ _ (by decide))) _,U5 hf,hl,U5 fl,by rw[World.size_setCell];exact lz⟩,m1,m2,by dsimp only;omega,m4⟩
 ·dsimp only
  rw[hlen]
  have:=block_setCell (i:=2) hB (Y (some ⟨g,0,none⟩) n cF)
  simpa using this
 ·dsimp only
  rw[hlen]
  have fn:=own_ne f hB (by first|decide|exact Ex.ne _ _ (by decide))
  refine ownsRow_setCell_other ?_ fn _
  rw[hn] at f
  refine ownsRow_pop (last:=encI (M.free.drop n)) (by simp[encI];omega) ?_
  rw[show encI (M.free.take n)++encI (M.free.drop n)=encI M.free by simp[encI]]
  exact f
end
section
open Go.ChangeShapes Go.WideShapes Go.ChangeAt Go.RowKit Go.Joins
theorem Fj{w:World}{lo size n g j:Nat}{e tt:TypeId}{v:Value}{xs:List Value}{cs:Array Value}(h:w.ownsRow lo e size v n xs)(hB:w.heap[g]?=some (.cells cs tt (0,0)))(ne:e≠tt)(u:Value):(w.setCell ⟨g,j,none⟩ u).ownsRow lo e size v n xs :=
 ownsRow_setCell_other h (own_ne h hB ne) u
theorem Vz{w w1:World}{lo lo1 size size1 n n1:Nat}{e e1:TypeId}{v v1:Value}{xs xs1:List Value}(h:w.ownsRow lo e size v n xs)(h1:w1.ownsRow lo1 e1 size1 v1 n1 xs1)(hl:w.heap.size<=lo1):Dj v v1:=by
 intro g hg hg1
 have:=(h.lt g hg).2
 have:=(h1.lt g hg1).1
 omega
set_option maxHeartbeats 1600000 in
theorem b0e(M:Mm)(aS aH aF aL:Option Addr)(cS cH cF cL:Nat)(w:World)(A:At w aS aH aF aL cS cH cF cL M) :
  Calls Tryz.prog 101 #[.agg #[Y aS M.slots.length cS,Y aH M.heads.length cH,Y aF M.free.length cF,Y aL M.locks.length cL,O J M.now]] w fun e w'=>∃ gS gH gF gL kS kH kF kL,
   e=.returned (.agg #[Y gS M.slots.length kS,Y gH M.heads.length kH,Y gF M.free.length kF,Y gL M.locks.length kL,O J M.now]) /\
   Rw w' w.heap.size gS gH gF gL kS kH kF kL M/\Below w.heap.size w w':=by
 obtain⟨S,H,F,L,now⟩:=M
 dsimp only
 have m1:=A.s.max;have m2:=A.h.max;have m3:=A.f.max;have m4:=A.l.max
 dsimp only at m1 m2 m3 m4
 obtain⟨o1,ho1⟩:∃ o:Obj,o=.cells #[Y aS S.length cS,Y aH H.length cH,Y aF F.length cF,Y aL L.length cL,O J now] 25:=⟨_,rfl⟩
 obtain⟨o2,ho2⟩:∃ o:Obj,o=.cells #[Y none 0 0,Y none 0 0,Y none 0 0,Y none 0 0,O J 0] 25:=⟨_,rfl⟩
 have B0:Below w.heap.size w ((w.alloc o1).alloc o2):=below_alloc2 w o1 o2
 have HB0:Hid (((w.alloc o1).alloc o2).heap[w.heap.size]?=some o1):=by show _=_;rw[Below.heap_alloc _ _ _ (by simp),heap_alloc_new]
 have HR0:Hid (((w.alloc o1).alloc o2).heap[w.heap.size+1]?=some o2):=by
  have:=heap_alloc_new (w.alloc o1) o2
  rwa [show (w.alloc o1).heap.size=w.heap.size+1 by simp] at this
 have z0:w.heap.size+2<=((w.alloc o1).alloc o2).heap.size:=by simp
 have HA:Hid (At w aS aH aF aL cS cH cF cL ⟨S,H,F,L,now⟩):=A
 clear A
 go_enter Tryz.func101,Tryz.ntmps101
 go_wp2_with fail
 rw[<- ho1,<- ho2]
 generalize (w.alloc o1).alloc o2=W0 at *
 subst ho1 ho2
 have HA0:Hid _:=HA.out.below B0
 refine(a7o aS cS S W0 HA0.out.s).mono ?_
 rintro e w1 ⟨gS,kS,rfl,ownS,hb1⟩
 have b1:=B0.trans (hb1.mono B0.size)
 have HBx1:Hid (w1.heap[w.heap.size]?=_):=(hb1.block w.heap.size (lt_of_block HB0.out)).trans HB0.out
 have HRx1:Hid (w1.heap[w.heap.size+1]?=_):=(hb1.block (w.heap.size+1) (lt_of_block HR0.out)).trans HR0.out
 have zx1:w.heap.size+2<=w1.heap.size:=Nat.le_trans z0 hb1.size
 have OSx1:Hid (w1.ownsRow w.heap.size 64 6 (Y gS S.length kS) S.length (encS S)):=ownsRow_le ownS (by omega)
 clear ownS hb1 HA0 HB0 HR0 
 obtain⟨q0,q1,q2,q3,q4,f0,f1,f2,f3,f4,qs⟩:=Aj HBx1.out
 have B1:Below w.heap.size w (w1.setCell ⟨w.heap.size,0,none⟩ (Y gS S.length kS)):=b1.setCell (Nat.le_refl _) _
 have HB1:Hid ((w1.setCell ⟨w.heap.size,0,none⟩ (Y gS S.length kS)).heap[w.heap.size]?=some (.cells #[Y gS S.length kS,Y aH H.length cH,Y aF F.length cF,Y aL L.length cL,O J now] 25 (0,0))):=by
  have:=block_setCell (i:=0) HBx1.out (Y gS S.length kS)
  show _=_
  simpa using this
 have HR1:Hid ((w1.setCell ⟨w.heap.size,0,none⟩ (Y gS S.length kS)).heap[w.heap.size+1]?=_):=(Below.heap_setCell w1 ⟨w.heap.size,0,none⟩ (Y gS S.length kS) (w.heap.size+1) (by show w.heap.size+1≠w.heap.size;omega)).trans HRx1.out
 have z1:w.heap.size+2<=(w1.setCell ⟨w.heap.size,0,none⟩ (Y gS S.length kS)).heap.size:=by rw[World.size_setCell];exact zx1
 have OS1:Hid ((w1.setCell ⟨w.heap.size,0,none⟩ (Y gS S.length kS)).ownsRow w.heap.size 64 6 (Y gS S.length kS) S.length (encS S)):=Fj OSx1.out HBx1.out (by first|decide|exact Ex.ne _ _ (by decide)) _
 clear zx1 HRx1 OSx1 B0 b1 z0
 go_wp2_with fail
 generalize w1.setCell ⟨w.heap.size,0,none⟩ (Y gS S.length kS)=W1 at *
 clear q0 q1 q2 q3 q4 f0 f1 f2 f3 f4 qs HBx1
 have HA1:Hid _:=HA.out.below B1
 refine(Px aH cH H W1 HA1.out.h).mono ?_
 rintro e w2 ⟨gH,kH,rfl,ownH,hb2⟩
 have b2:=B1.trans (hb2.mono B1.size)
 have HBx2:Hid (w2.heap[w.heap.size]?=_):=(hb2.block w.heap.size (lt_of_block HB1.out)).trans HB1.out
 have HRx2:Hid (w2.heap[w.heap.size+1]?=_):=(hb2.block (w.heap.size+1) (lt_of_block HR1.out)).trans HR1.out
 have zx2:w.heap.size+2<=w2.heap.size:=Nat.le_trans z1 hb2.size
 have OSx2:Hid (w2.ownsRow w.heap.size 64 6 (Y gS S.length kS) S.length (encS S)):=own_below OS1.out hb2
 have OHx2:Hid (w2.ownsRow w.heap.size 3 1 (Y gH H.length kH) H.length (encI H)):=ownsRow_le ownH (by omega)
 clear ownH hb2 HA1 HB1 HR1 OS1
 obtain⟨q0,q1,q2,q3,q4,f0,f1,f2,f3,f4,qs⟩:=Aj HBx2.out
 have B2:Below w.heap.size w (w2.setCell ⟨w.heap.size,1,none⟩ (Y gH H.length kH)):=b2.setCell (Nat.le_refl _) _
 have HB2:Hid ((w2.setCell ⟨w.heap.size,1,none⟩ (Y gH H.length kH)).heap[w.heap.size]?=some (.cells #[Y gS S.length kS,Y gH H.length kH,Y aF F.length cF,Y aL L.length cL,O J now] 25 (0,0))):=by
  have:=block_setCell (i:=1) HBx2.out (Y gH H.length kH)
  show _=_
  simpa using this
 have HR2:Hid ((w2.setCell ⟨w.heap.size,1,none⟩ (Y gH H.length kH)).heap[w.heap.size+1]?=_):=(Below.heap_setCell w2 ⟨w.heap.size,1,none⟩ (Y gH H.length kH) (w.heap.size+1) (by show w.heap.size+1≠w.heap.size;omega)).trans HRx2.out
 have z2:w.heap.size+2<=(w2.setCell ⟨w.heap.size,1,none⟩ (Y gH H.length kH)).heap.size:=by rw[World.size_setCell];exact zx2
 have OS2:Hid ((w2.setCell ⟨w.heap.size,1,none⟩ (Y gH H.length kH)).ownsRow w.heap.size 64 6 (Y gS S.length kS) S.length (encS S)):=Fj OSx2.out HBx2.out (by first|decide|exact Ex.ne _ _ (by decide)) _
 have OH2:Hid ((w2.setCell ⟨w.heap.size,1,none⟩ (Y gH H.length kH)).ownsRow w.heap.size 3 1 (Y gH H.length kH) H.length (encI H)):=Fj OHx2.out HBx2.out (by first|decide|exact Ex.ne _ _ (by decide)) _
 clear zx2 HRx2 OSx2 OHx2 B1 b2 z1
 go_wp2_with fail
 generalize w2.setCell ⟨w.heap.size,1,none⟩ (Y gH H.length kH)=W2 at *
 clear q0 q1 q2 q3 q4 f0 f1 f2 f3 f4 qs HBx2
 have HA2:Hid _:=HA.out.below B2
 refine(Px aF cF F W2 HA2.out.f).mono ?_
 rintro e w3 ⟨gF,kF,rfl,ownF,hb3⟩
 have b3:=B2.trans (hb3.mono B2.size)
 have HBx3:Hid (w3.heap[w.heap.size]?=_):=(hb3.block w.heap.size (lt_of_block HB2.out)).trans HB2.out
 have HRx3:Hid (w3.heap[w.heap.size+1]?=_):=(hb3.block (w.heap.size+1) (lt_of_block HR2.out)).trans HR2.out
 have zx3:w.heap.size+2<=w3.heap.size:=Nat.le_trans z2 hb3.size
 have OSx3:Hid (w3.ownsRow w.heap.size 64 6 (Y gS S.length kS) S.length (encS S)):=own_below OS2.out hb3
 have OHx3:Hid (w3.ownsRow w.heap.size 3 1 (Y gH H.length kH) H.length (encI H)):=own_below OH2.out hb3
 have OFx3:Hid (w3.ownsRow w.heap.size 3 1 (Y gF F.length kF) F.length (encI F)):=ownsRow_le ownF (by omega)
 have DHF:Dj (Y gH H.length kH) (Y gF F.length kF):=Vz OH2.out ownF (Nat.le_refl _)
 clear ownF hb3 HA2 HB2 HR2 OS2 OH2
 obtain⟨q0,q1,q2,q3,q4,f0,f1,f2,f3,f4,qs⟩:=Aj HBx3.out
 have B3:Below w.heap.size w (w3.setCell ⟨w.heap.size,2,none⟩ (Y gF F.length kF)):=b3.setCell (Nat.le_refl _) _
 have HB3:Hid ((w3.setCell ⟨w.heap.size,2,none⟩ (Y gF F.length kF)).heap[w.heap.size]?=some (.cells #[Y gS S.length kS,Y gH H.length kH,Y gF F.length kF,Y aL L.length cL,O J now] 25 (0,0))):=by
  have:=block_setCell (i:=2) HBx3.out (Y gF F.length kF)
  show _=_
  simpa using this
 have HR3:Hid ((w3.setCell ⟨w.heap.size,2,none⟩ (Y gF F.length kF)).heap[w.heap.size+1]?=_):=(Below.heap_setCell w3 ⟨w.heap.size,2,none⟩ (Y gF F.length kF) (w.heap.size+1) (by show w.heap.size+1≠w.heap.size;omega)).trans HRx3.out
 have z3:w.heap.size+2<=(w3.setCell ⟨w.heap.size,2,none⟩ (Y gF F.length kF)).heap.size:=by rw[World.size_setCell];exact zx3
 have OS3:Hid ((w3.setCell ⟨w.heap.size,2,none⟩ (Y gF F.length kF)).ownsRow w.heap.size 64 6 (Y gS S.length kS) S.length (encS S)):=Fj OSx3.out HBx3.out (by first|decide|exact Ex.ne _ _ (by decide)) _
 have OH3:Hid ((w3.setCell ⟨w.heap.size,2,none⟩ (Y gF F.length kF)).ownsRow w.heap.size 3 1 (Y gH H.length kH) H.length (encI H)):=Fj OHx3.out HBx3.out (by first|decide|exact Ex.ne _ _ (by decide)) _
 have OF3:Hid ((w3.setCell ⟨w.heap.size,2,none⟩ (Y gF F.length kF)).ownsRow w.heap.size 3 1 (Y gF F.length kF) F.length (encI F)):=Fj OFx3.out HBx3.out (by first|decide|exact Ex.ne _ _ (by decide)) _
 clear zx3 HRx3 OSx3 OHx3 OFx3 B2 b3 z2
 go_wp2_with fail
 generalize w3.setCell ⟨w.heap.size,2,none⟩ (Y gF F.length kF)=W3 at *
 clear q0 q1 q2 q3 q4 f0 f1 f2 f3 f4 qs HBx3
 have HA3:Hid _:=HA.out.below B3
 refine(Px aL cL L W3 HA3.out.l).mono ?_
 rintro e w4 ⟨gL,kL,rfl,ownL,hb4⟩
 have b4:=B3.trans (hb4.mono B3.size)
 have HBx4:Hid (w4.heap[w.heap.size]?=_):=(hb4.block w.heap.size (lt_of_block HB3.out)).trans HB3.out
 have HRx4:Hid (w4.heap[w.heap.size+1]?=_):=(hb4.block (w.heap.size+1) (lt_of_block HR3.out)).trans HR3.out
 have zx4:w.heap.size+2<=w4.heap.size:=Nat.le_trans z3 hb4.size
 have OSx4:Hid (w4.ownsRow w.heap.size 64 6 (Y gS S.length kS) S.length (encS S)):=own_below OS3.out hb4
 have OHx4:Hid (w4.ownsRow w.heap.size 3 1 (Y gH H.length kH) H.length (encI H)):=own_below OH3.out hb4
 have OFx4:Hid (w4.ownsRow w.heap.size 3 1 (Y gF F.length kF) F.length (encI F)):=own_below OF3.out hb4
 have OLx4:Hid (w4.ownsRow w.heap.size 3 1 (Y gL L.length kL) L.length (encI L)):=ownsRow_le ownL (by omega)
 have DHL:Dj (Y gH H.length kH) (Y gL L.length kL):=Vz OH3.out ownL (Nat.le_refl _)
 have DFL:Dj (Y gF F.length kF) (Y gL L.length kL):=Vz OF3.out ownL (Nat.le_refl _)
 clear ownL hb4 HA3 HB3 HR3 OS3 OH3 OF3
 obtain⟨q0,q1,q2,q3,q4,f0,f1,f2,f3,f4,qs⟩:=Aj HBx4.out
 obtain⟨r0,r1,r2,r3,r4,g0,g1,g2,g3,g4,rs⟩:=Aj HRx4.out
 have rs0:w.heap.size+1≠w.heap.size:=by omega
 have HF:Hid (Rw (mm.Jt (w4.setCell ⟨w.heap.size,3,none⟩ (Y gL L.length kL)) (w.heap.size+1) (Y gS S.length kS) (Y gH H.length kH) (Y gF F.length kF) (Y gL L.length kL) (O J now)) w.heap.size gS gH gF gL kS kH kF kL ⟨S,H,F,L,now⟩):=by
  have hR:(w4.setCell ⟨w.heap.size,3,none⟩ (Y gL L.length kL)).heap[w.heap.size+1]?=_:=(Below.heap_setCell w4 ⟨w.heap.size,3,none⟩ (Y gL L.length kL) (w.heap.size+1) (by show w.heap.size+1≠w.heap.size;omega)).trans HRx4.out
  have r:Rw (w4.setCell ⟨w.heap.size,3,none⟩ (Y gL L.length kL)) w.heap.size gS gH gF gL kS kH kF kL ⟨S,H,F,L,now⟩ :=
   ⟨Fj OSx4.out HBx4.out (by first|decide|exact Ex.ne _ _ (by decide)) _,Fj OHx4.out HBx4.out (by first|decide|exact Ex.ne _ _ (by decide)) _,Fj OFx4.out HBx4.out (by first|decide|exact Ex.ne _ _ (by decide)) _,Fj OLx4.out HBx4.out (by first|decide|exact Ex.ne _ _ (by decide)) _,DHF,DHL,DFL,by rw[World.size_setCell];omega⟩
  exact r.Jt (Xb:=X0) hR _ _ _ _ _
 clear OSx4 OHx4 OFx4 OLx4 HBx4 HRx4 z3
 go_wp2
 refine bodyPost_ret (v:=.agg #[Y gS S.length kS,Y gH H.length kH,Y gF F.length kF,Y gL L.length kL,O J now]) (by simp[results,Tryz.results101,go_sem,r0,r1,r2,r3,r4]) rfl ⟨_,_,_,_,_,_,_,_,rfl,HF.out,?_⟩
 exact(b4.setCell (Nat.le_refl _) _).trans (Qw _ _ _ _ _ _ _ _ (by omega))
end
section
open Go.ChangeShapes Go.WideShapes Go.ChangeAt Go.RowKit Go.Joins Go.Deep Go.Sort
variable {Xb:Ex}
def Tz(w:World)(g o:Nat)(s:Sl):World :=
 (((((w.setCell ⟨g,o,none⟩ (O J s.refs)).setCell ⟨g,o+1,none⟩ (O J s.a)).setCell ⟨g,o+2,none⟩ (O J s.b)).setCell ⟨g,o+3,none⟩ (O J s.unt)).setCell ⟨g,o+4,none⟩ (.bool s.inn)).setCell ⟨g,o+5,none⟩ (O J s.next)
theorem a6o(S:List Sl)(j:Nat)(h:j<S.length)(s:Sl) :
  ((((((encS S).set (j*6) (O J s.refs)).set (j*6+1) (O J s.a)).set (j*6+2) (O J s.b)).set (j*6+3) (O J s.unt)).set (j*6+4) (.bool s.inn)).set (j*6+5) (O J s.next)=encS (S.set j s):=by
 induction S generalizing j with
 | nil=>simp at h
 | cons x S ih =>
  match j with
  | 0=>simp[Fb,Sl.enc]
  | j+1 =>
   have:=ih j (by simpa using h)
   rw[List.set_cons_succ,Fb,Fb,<- this]
   simp only[Sl.enc,List.cons_append,List.nil_append,show (j+1)*6=j*6+6 by omega,show j*6+6+1=j*6+1+6 by omega,show j*6+6+2=j*6+2+6 by omega,show j*6+6+3=j*6+3+6 by omega,show j*6+6+4=j*6+4+6 by omega,show j*6+6+5=j*6+5+6 by omega,List.set_cons_succ]
theorem a6m(S:List Sl)(j:Nat)(h:j<S.length)(r:Int):(encS S).set (j*6) (O J r)=encS (S.set j { S[j] with refs:=r }):=by
 induction S generalizing j with
 | nil=>simp at h
 | cons x S ih =>
  match j with
  | 0=>simp[Fb,Sl.enc]
  | j+1 =>
   have:=ih j (by simpa using h)
   rw[List.set_cons_succ,Fb,Fb,List.getElem_cons_succ,<- this]
   simp only[Sl.enc,List.cons_append,List.nil_append,show (j+1)*6=j*6+6 by omega,List.set_cons_succ]
theorem Mine.Tz{w:World}{B lo g j:Nat}{aH aF aL:Option Addr}{cS cH cF cL:Nat}{M:Mm}(m:Mine Xb w B lo (some ⟨g,0,none⟩) aH aF aL cS cH cF cL M)(h:j<M.slots.length)(s:Sl) :
  Mine Xb (mm.Tz w g (j*6) s) B lo (some ⟨g,0,none⟩) aH aF aL cS cH cF cL { M with slots:=M.slots.set j s }:=by
 obtain⟨hB,⟨hs,hh,f,l,hf,hl',fl,lz⟩,m1,m2,m3,m4⟩:=m
 have hg:(Value.slice (some ⟨g,0,none⟩) M.slots.length cS).ownBlock=some g:=rfl
 have ne:∀ {v:Value} {n:Nat} {xs:List Value},w.ownsRow lo 3 1 v n xs->v.ownBlock≠some g:=fun h e=>I5 h hs (by first|decide|exact Ex.ne _ _ (by decide)) g e hg
 have oth:∀ {v:Value} {n:Nat} {xs:List Value},w.ownsRow lo 3 1 v n xs->(mm.Tz w g (j*6) s).ownsRow lo 3 1 v n xs:=fun h=>by
  have:=ne h
  unfold mm.Tz
  iterate 6 (refine ownsRow_setCell_other ?_ this _)
  exact h
 have hne:B≠g:=fun e=>own_ne hs hB (by first|decide|exact Ex.ne _ _ (by decide)) (by rw[hg,e])
 refine⟨?_,⟨?_,oth hh,oth f,oth l,hf,hl',fl,by simp only[mm.Tz,World.size_setCell];exact lz⟩,by dsimp only;rw[List.length_set];exact m1,m2,m3,m4⟩
 ·dsimp only
  rw[List.length_set]
  unfold mm.Tz
  repeat rw[Below.heap_setCell _ _ _ _ (by dsimp only;exact hne)]
  exact hB
 ·dsimp only
  rw[List.length_set,<- a6o M.slots j h s]
  unfold mm.Tz
  exact((((((hs.stored _ _).1.stored _ _).1.stored _ _).1.stored _ _).1.stored _ _).1.stored _ _).1
theorem H6{w:World}{lo g n cap:Nat}{S:List Sl}(h:w.ownsRow lo 64 6 (Y (some ⟨g,0,none⟩) n cap) n (encS S)){j:Nat}(hj:j<S.length) :
  w.cell? ⟨g,j*6,none⟩=some (O J S[j].refs)/\w.cell? ⟨g,j*6+1,none⟩=some (O J S[j].a)/\w.cell? ⟨g,j*6+2,none⟩=some (O J S[j].b) /\
  w.cell? ⟨g,j*6+3,none⟩=some (O J S[j].unt)/\w.cell? ⟨g,j*6+4,none⟩=some (.bool S[j].inn)/\w.cell? ⟨g,j*6+5,none⟩=some (O J S[j].next)/\∀ q,w.frozen? ⟨g,q,none⟩=false:=by
 have hn:S.length*6=n*6:=by rw[<- h.1,Jh]
 have e:∀ q,q<6->w.cell? ⟨g,j*6+q,none⟩=(S[j].enc)[q]?:=fun q hq=>by
  rw[h.cellAt _ (by omega),Rq S j q hj hq]
 exact⟨e 0 (by omega),e 1 (by omega),e 2 (by omega),e 3 (by omega),e 4 (by omega),e 5 (by omega),fun q=>h.frozenAt q⟩
theorem Jk{w:World}{lo g n cap:Nat}{l:List Int}(h:w.ownsRow lo 3 1 (Y (some ⟨g,0,none⟩) n cap) n (encI l)){j:Nat}(hj:j<l.length) :
  w.cell? ⟨g,j,none⟩=some (O J l[j])/\w.frozen? ⟨g,j,none⟩=false:=by
 have hn:l.length=n*1:=by rw[<- h.1,Il]
 exact⟨by rw[h.cellAt _ (by omega)];simp[encI,hj],h.frozenAt j⟩
theorem Dc{w:World}{lo size n cap:Nat}{ao:Option Addr}{e:TypeId}{xs:List Value}(h:w.ownsRow lo e size (Y ao n cap) n xs)(hn:0<n):∃ g,ao=some ⟨g,0,none⟩/\lo<=g/\g<w.heap.size/\n<=cap/\cap<=9223372036854775807:=by
 rcases h.2 with ⟨_,h0⟩|⟨g,cap',cur,hv,hg,hb,hc,hm,_⟩
 ·omega
 ·injection hv with h1 _ h3
  subst h1 h3
  exact⟨g,rfl,hg,lt_of_block hb,hc,by unfold maxLen at hm;exact hm⟩
set_option maxHeartbeats 1600000 in
theorem b7d(w:World)(B lo gS gF n j cS cH cF cL:Nat)(aH aL:Option Addr)(M:Mm)(ka kb u:Int)
  (m:Mine Xb w B lo (some ⟨gS,0,none⟩) aH (some ⟨gF,0,none⟩) aL cS cH cF cL M) (hF:M.free.length=n+1) (hj:j<M.slots.length) (hx:M.free[n]'(by omega)=j) (hn:n+1<=cF) (hc:cF<=9223372036854775807) :
  Calls Tryz.prog 203 #[.pointer (some ⟨B,0,none⟩),.agg #[O J ka,O J kb],O J u] w fun e w'=>e=.returned (.tuple #[O J j,.bool true]) /\
   ∃ w1,Below w.heap.size w w1/\w'=(mm.Tz (w1.setCell ⟨B,2,none⟩ (Y (some ⟨gF,0,none⟩) n cF)) gS (j*6) ⟨1,ka,kb,u,false,M.slots[j].next⟩).drew:=by
 have hn':n<=cF:=by omega
 have hS:M.slots.length<=9223372036854775807:=by have:=m.m1;omega
 have hv:inB (j:Int) 0 ((M.slots.length:Int) - 1)=true:=(Ai _ _ _).2 (by omega)
 have HHs:Hid (∀ W:World,Calls Tryz.prog 111 #[.agg #[Y (some ⟨gS,0,none⟩) M.slots.length cS,Y aH M.heads.length cH,Y (some ⟨gF,0,none⟩) M.free.length cF,Y aL M.locks.length cL,O J M.now],O J j] W fun e w'=>e=.returned (.bool true)/\Below W.heap.size W w'):=fun W=>hv ▸ Fz _ aH _ aL _ _ _ _ cS cH cF cL M.now j W hS
 obtain⟨s,hs⟩:∃ s,s=M.slots[j]:=⟨_,rfl⟩
 have HS:Hid (M.slots[j]=s):=hs.symm
 have HX:Hid (∀ W,Mine Xb W B lo (some ⟨gS,0,none⟩) aH (some ⟨gF,0,none⟩) aL cS cH cF cL M->(W.cell? ⟨gS,j*6,none⟩=some (O J s.refs)/\W.cell? ⟨gS,j*6+1,none⟩=some (O J s.a)/\W.cell? ⟨gS,j*6+2,none⟩=some (O J s.b)/\W.cell? ⟨gS,j*6+3,none⟩=some (O J s.unt)/\W.cell? ⟨gS,j*6+4,none⟩=some (.bool s.inn)/\W.cell? ⟨gS,j*6+5,none⟩=some (O J s.next)/\∀ q,W.frozen? ⟨gS,q,none⟩=false)/\W.cell? ⟨gF,n,none⟩=some (O J j)):=fun W m'=>by
  have:=(Jk m'.c.f (j:=n) (by omega)).1
  rw[hx] at this
  rw[hs]
  exact⟨H6 m'.c.s hj,this⟩
 have HD:Hid (∀ W,Mine Xb W B lo (some ⟨gS,0,none⟩) aH (some ⟨gF,0,none⟩) aL cS cH cF cL M->B≠gS/\B≠gF/\gS<W.heap.size/\gF<W.heap.size/\W.heap[B]?=some (.cells (List.toArray (Y (some ⟨gS,0,none⟩) M.slots.length cS :: Y aH M.heads.length cH :: Y (some ⟨gF,0,none⟩) M.free.length cF :: Y aL M.locks.length cL :: O J M.now :: Xb.rs)) Xb.rt (0,0))):=fun W m' =>
  ⟨(fun e=>own_ne m'.c.s m'.box (by first|decide|exact Ex.ne _ _ (by decide)) (by rw[e];rfl)),(fun e=>own_ne m'.c.f m'.box (by first|decide|exact Ex.ne _ _ (by decide)) (by rw[e];rfl)),(m'.c.s.lt _ rfl).2,(m'.c.f.lt _ rfl).2,m'.box⟩
 obtain⟨ok,hok⟩:∃ o:Obj,o=.cells #[O J ka,O J kb] 30:=⟨_,rfl⟩
 have HM:Hid (Mine Xb (w.alloc ok) B lo (some ⟨gS,0,none⟩) aH (some ⟨gF,0,none⟩) aL cS cH cF cL M):=m.below (Ad _ _)
 have HB:Hid (Below w.heap.size w (w.alloc ok)):=Ad _ _
 have HK:Hid ((w.alloc ok).heap[w.heap.size]?=some (.cells #[O J ka,O J kb] 30 (0,0))):=hok ▸ heap_alloc_new w ok
 obtain⟨-,-,-,-,hB⟩:=HD.out _ m
 obtain⟨-,-,q2,-,-,-,-,-,-,-,qs⟩:=Aj hB
 rw[hF] at q2
 have hnl:n<M.free.length:=by omega
 have HFl:Hid (M.free.length=n+1):=hF
 have HQ:Hid (w.heap.size≠B):=by show _≠_;omega
 clear m hx hv hB hs hF
 go_enter Tryz.func203,Tryz.ntmps203
 go_wp2_with fail
 rw[<- hok]
 clear q2 qs
 generalize w.alloc ok=W0 at *
 clear hok
 obtain⟨d1,d2,l1,l2,hB⟩:=HD.out _ HM.out
 obtain⟨q0,q1,q2,q3,q4,-,-,-,-,-,qs⟩:=Aj hB
 obtain⟨-,cx⟩:=HX.out _ HM.out
 have cB:∀ (d:Nat) (os:Array Obj),Calls Tryz.prog 111 #[.agg #[Y (some ⟨gS,0,none⟩) M.slots.length cS,Y aH M.heads.length cH,Y (some ⟨gF,0,none⟩) M.free.length cF,Y aL M.locks.length cL,O J M.now],O J j] (grow (redrawn W0 d) os) fun e w''=>e=.returned (.bool true)/\∃ p:Regrown,w''=grow (redrawn W0 p.d) p.os:=fun d os=>Calls.regrown_of (HHs.out _)
 have Q0:=cell_regrown q0;have Q1:=cell_regrown q1;have Q2:=cell_regrown q2;have Q3:=cell_regrown q3;have Q4:=cell_regrown q4;have QX:=cell_regrown cx
 clear q0 q1 q2 q3 q4 qs cx hB
 refine wp_region_quiet_below (by kernel_rfl) (by kernel_rfl) ?_
 repeat (quiet_step (first|exact cB _ _))
 refine wpQuiet_nil ?_
 intro _ hw'
 obtain⟨⟨dq,osq⟩,hw''⟩:=hw'
 subst hw''
 have HB1:Hid _:=below_regrown W0 dq osq
 generalize grow (redrawn W0 dq) osq=w1 at *
 clear cB Q0 Q1 Q2 Q3 Q4 QX d1 d2 l1 l2 HHs
 have HM1:Hid (Mine Xb w1 B lo (some ⟨gS,0,none⟩) aH (some ⟨gF,0,none⟩) aL cS cH cF cL M):=HM.out.below HB1.out
 have HK1:Hid (w1.heap[w.heap.size]?=some (.cells #[O J ka,O J kb] 30 (0,0))):=(HB1.out.block _ (lt_of_block HK.out)).trans HK.out
 have HB2:Hid (Below w.heap.size w w1):=HB.out.trans (HB1.out.mono HB.out.size)
 clear HB1 HM HK HB
 have HM2:Hid (Mine Xb (w1.setCell ⟨B,2,none⟩ (Y (some ⟨gF,0,none⟩) n cF)) B lo (some ⟨gS,0,none⟩) aH (some ⟨gF,0,none⟩) aL cS cH cF cL { M with free:=M.free.take n }):=HM1.out.pop HFl.out
 have HK2:Hid ((w1.setCell ⟨B,2,none⟩ (Y (some ⟨gF,0,none⟩) n cF)).heap[w.heap.size]?=some (.cells #[O J ka,O J kb] 30 (0,0))):=(Below.heap_setCell _ _ _ _ (by dsimp only;exact HQ.out)).trans HK1.out
 have HW:Hid (∃ w2,Below w.heap.size w w2/\w1.setCell ⟨B,2,none⟩ (Y (some ⟨gF,0,none⟩) n cF)=w2.setCell ⟨B,2,none⟩ (Y (some ⟨gF,0,none⟩) n cF)):=⟨w1,HB2.out,rfl⟩
 obtain⟨d1,d2,l1,l2,hB⟩:=HD.out _ HM1.out
 obtain⟨q0,q1,q2,q3,q4,f0,f1,f2,f3,f4,qs⟩:=Aj hB
 obtain⟨-,cx⟩:=HX.out _ HM1.out
 clear hB HD HX HM1 HK1 HB2
 go_wp2
 clear q0 q1 q2 q3 q4 f0 f1 f2 f3 f4 qs cx l1 l2
 generalize w1.setCell ⟨B,2,none⟩ (Y (some ⟨gF,0,none⟩) n cF)=w2 at *
 obtain⟨q0,-,-,-,-,-,-,-,-,-,qs⟩:=Aj HM2.out.box
 have l1:gS<w2.heap.size:=(HM2.out.c.s.lt _ rfl).2
 obtain⟨c0,c1,c2,c3,c4,c5,hfz⟩:=H6 HM2.out.c.s (j:=j) hj
 dsimp only at q0 c0 c1 c2 c3 c4 c5
 rw[HS.out] at c0 c1 c2 c3 c4 c5
 have k0:w2.cell? ⟨w.heap.size,0,none⟩=some (O J ka):=by rw[cell_of_block HK2.out];rfl
 have k1:w2.cell? ⟨w.heap.size,1,none⟩=some (O J kb):=by rw[cell_of_block HK2.out];rfl
 have ks:=lt_of_block HK2.out
 clear HM2 HK2 HQ HFl
 go_region
 all_goals go_wp2
 all_goals go_ret2
 all_goals
  obtain⟨w3,h3,h4⟩:=HW.out
  subst h4
  exact⟨rfl,w3,h3,by rw[HS.out];rfl⟩
theorem b7e(w:World)(B:Nat)(sv hv lv nv:Value)(aF:Option Addr)(cF:Nat)(ka kb u:Int)
  (hB:w.heap[B]?=some (.cells (List.toArray (sv :: hv :: Y aF 0 cF :: lv :: nv :: Xb.rs)) Xb.rt (0,0))) :
  Calls Tryz.prog 203 #[.pointer (some ⟨B,0,none⟩),.agg #[O J ka,O J kb],O J u] w fun e w'=>e=.returned (.tuple #[O J 0,.bool false])/\Below w.heap.size w w':=by
 obtain⟨q0,q1,q2,q3,q4,f0,f1,f2,f3,f4,qs⟩:=Aj hB
 clear hB
 go_enter Tryz.func203,Tryz.ntmps203
 go_wp2_with fail
 go_quiet (fail)
 go_wp2
 go_ret2
 exact⟨rfl,(Ad _ _).trans ⟨rfl,rfl,rfl,Nat.le_refl _,fun _ _=>rfl⟩⟩
theorem Mine.ne_s{w:World}{B lo g:Nat}{aH aF aL:Option Addr}{cS cH cF cL:Nat}{M:Mm}(m:Mine Xb w B lo (some ⟨g,0,none⟩) aH aF aL cS cH cF cL M):B≠g :=
 fun e=>own_ne m.c.s m.box (by first|decide|exact Ex.ne _ _ (by decide)) (by rw[e];rfl)
theorem Mine.ne_h{w:World}{B lo g:Nat}{aS aF aL:Option Addr}{cS cH cF cL:Nat}{M:Mm}(m:Mine Xb w B lo aS (some ⟨g,0,none⟩) aF aL cS cH cF cL M):B≠g :=
 fun e=>own_ne m.c.h m.box (by first|decide|exact Ex.ne _ _ (by decide)) (by rw[e];rfl)
end
section
open Go.ChangeShapes Go.WideShapes Go.ChangeAt Go.RowKit Go.Joins
variable {Xb:Ex}
theorem b5k(w:World)(B gS nS j cS:Nat)(hv fv lv nv:Value)(r:Int)
  (hB:w.heap[B]?=some (.cells (List.toArray (Y (some ⟨gS,0,none⟩) nS cS :: hv :: fv :: lv :: nv :: Xb.rs)) Xb.rt (0,0))) (hj:j<nS) (c0:w.cell? ⟨gS,j*6,none⟩=some (O J r)) (hr:r=0\/r=1000) :
  Calls Tryz.prog 201 #[.pointer (some ⟨B,0,none⟩),O J j] w fun e w'=>e=.returned (.bool false)/\w=w':=by
 obtain⟨q0,q1,q2,q3,q4,f0,f1,f2,f3,f4,qs⟩:=Aj hB
 clear hB
 rcases hr with rfl|rfl
 all_goals
  go_enter Tryz.func201,Tryz.ntmps201
  go_wp2
  go_ret
  exact⟨rfl,rfl⟩
theorem b1a(w:World)(B gS nS j cS:Nat)(hv fv lv nv:Value)(r:Int)
  (hB:w.heap[B]?=some (.cells (List.toArray (Y (some ⟨gS,0,none⟩) nS cS :: hv :: fv :: lv :: nv :: Xb.rs)) Xb.rt (0,0))) (hj:j<nS) (c0:w.cell? ⟨gS,j*6,none⟩=some (O J r)) (f0:w.frozen? ⟨gS,j*6,none⟩=false) (h0:0<r) (h1:r<1000) :
  Calls Tryz.prog 201 #[.pointer (some ⟨B,0,none⟩),O J j] w fun e w'=>e=.returned (.bool true)/\w.setCell ⟨gS,j*6,none⟩ (O J (r+1))=w':=by
 obtain⟨q0,q1,q2,q3,q4,-,-,-,-,-,qs⟩:=Aj hB
 clear hB
 have e0:(r==0)=false:=by rw[beq_eq_false_iff_ne];omega
 have e1:(r==1000)=false:=by rw[beq_eq_false_iff_ne];omega
 go_enter Tryz.func201,Tryz.ntmps201
 go_wp2
 go_ret
 exact⟨rfl,rfl⟩
theorem b9k(w:World)(B gS nS j cS:Nat)(hv fv lv nv:Value)
  (hB:w.heap[B]?=some (.cells (List.toArray (Y (some ⟨gS,0,none⟩) nS cS :: hv :: fv :: lv :: nv :: Xb.rs)) Xb.rt (0,0))) (hj:j<nS) (c0:w.cell? ⟨gS,j*6,none⟩=some (O J 0)) :
  Calls Tryz.prog 197 #[.pointer (some ⟨B,0,none⟩),O J j] w fun e w'=>e=.returned (.bool false)/\w=w':=by
 obtain⟨q0,q1,q2,q3,q4,f0,f1,f2,f3,f4,qs⟩:=Aj hB
 clear hB
 go_enter Tryz.func197,Tryz.ntmps197
 go_wp2
 go_ret
 exact⟨rfl,rfl⟩
theorem b2e(w:World)(B gS nS j cS:Nat)(hv fv lv nv:Value)(r:Int)
  (hB:w.heap[B]?=some (.cells (List.toArray (Y (some ⟨gS,0,none⟩) nS cS :: hv :: fv :: lv :: nv :: Xb.rs)) Xb.rt (0,0))) (hj:j<nS) (c0:w.cell? ⟨gS,j*6,none⟩=some (O J r)) (f0:w.frozen? ⟨gS,j*6,none⟩=false) (h0:1<r) (h1:r<=1000) :
  Calls Tryz.prog 197 #[.pointer (some ⟨B,0,none⟩),O J j] w fun e w'=>e=.returned (.bool true)/\w.setCell ⟨gS,j*6,none⟩ (O J (r - 1))=w':=by
 obtain⟨q0,q1,q2,q3,q4,-,-,-,-,-,qs⟩:=Aj hB
 clear hB
 have e0:(r==0)=false:=by rw[beq_eq_false_iff_ne];omega
 have e1:(r - 1==0)=false:=by rw[beq_eq_false_iff_ne];omega
 go_enter Tryz.func197,Tryz.ntmps197
 go_wp2
 go_ret
 exact⟨rfl,rfl⟩
theorem Zn(w:World)(v:Value)(t:TypeId)(n:Nat)(hn:n=w.heap.size):∀ (j:Nat) (u:Value),([v]:List Value)[j]?=some u->(w.alloc (.cells #[v] t)).cell? ((⟨n,0,none⟩:Addr).add j)=some u:=by
 subst hn
 intro j u hj
 match j,hj with
 | 0,hj=>simp at hj;subst hj;simp[Addr.add]
theorem a6a{w w1:World}{B gS o:Nat}{row:Option Nat}{u v:Value}{ob:Obj}(hg:((w.setCell ⟨gS,o,none⟩ u).alloc ob).grownBy w1 row)(q2:w.cell? ⟨B,2,none⟩=some v)(f2:w.frozen? ⟨B,2,none⟩=false)(h1:B≠gS)(h2:row≠some B)(hB:B<w.heap.size) :
  w1.cell? ⟨B,2,none⟩=some v/\w1.frozen? ⟨B,2,none⟩=false:=by
 have hk:w1.heap[B]?=w.heap[B]?:=by
  rw[hg.block B (by simp;omega) (fun e=>h2 e.symm),Below.heap_alloc _ _ _ (by simp;omega),Below.heap_setCell _ _ _ _ (by dsimp only;exact h1)]
 exact⟨(World.cell?_of_block (a:=⟨B,2,none⟩) hk).trans q2,(World.frozen?_of_block (a:=⟨B,2,none⟩) hk).trans f2⟩
theorem b4h(ao:Option Addr)(n cap:Nat)(w:World)(h:n<=cap)(hnil:ao=none->n=0/\cap=0) :
  Calls Tryz.prog 212 #[Y ao n cap] w fun e w'=>e=.returned (Y ao n n)/\w=w':=by
 cases ao with
 | none =>
  obtain⟨rfl,rfl⟩:=hnil rfl
  go_enter Tryz.func212,Tryz.ntmps212
  go_wp2
  go_ret
  exact⟨rfl,rfl⟩
 | some ad =>
  go_enter Tryz.func212,Tryz.ntmps212
  go_wp2
  go_ret
  exact⟨rfl,rfl⟩
theorem Mine.Aw{w w1:World}{B lo n:Nat}{aS aH aF aL a':Option Addr}{cS cH cF cL c':Nat}{M:Mm}(m:Mine Xb w B lo aS aH aF aL cS cH cF cL M)(F':List Int)(hm:F'.length*8<=140737488351000)
  (hb:Below w.heap.size w w1) (hn:F'.length=n) (ho:w1.ownsRow w.heap.size 3 1 (Y a' n c') n (encI F')) :
  Mine Xb (w1.setCell ⟨B,2,none⟩ (Y a' n c')) B lo aS aH a' aL cS cH c' cL { M with free:=F' }:=by
 subst hn
 have dh:=Vz m.c.h ho (Nat.le_refl _)
 have dl:=Vz m.c.l ho (Nat.le_refl _)
 obtain⟨hB,⟨s,h,f,l,hf,hl,fl,lz⟩,m1,m2,m3,m4⟩:=m.below hb
 refine⟨?_,⟨Fj s hB (by first|decide|exact Ex.ne _ _ (by decide)) _,Fj h hB (by first|decide|exact Ex.ne _ _ (by decide)) _,Fj (ownsRow_le ho m.c.lz) hB (by first|decide|exact Ex.ne _ _ (by decide)) _,Fj l hB (by first|decide|exact Ex.ne _ _ (by decide)) _,dh,hl,dl.symm,by rw[World.size_setCell];exact lz⟩,m1,m2,hm,m4⟩
 have:=block_setCell (i:=2) hB (Y a' F'.length c')
 simpa using this
set_option maxHeartbeats 1600000 in
theorem b2d(w:World)(B gS nS j cS cF:Nat)(aF:Option Addr)(F:List Int)(hv lv nv:Value)
  (hB:w.heap[B]?=some (.cells (List.toArray (Y (some ⟨gS,0,none⟩) nS cS :: hv :: Y aF F.length cF :: lv :: nv :: Xb.rs)) Xb.rt (0,0))) (hj:j<nS) (c0:w.cell? ⟨gS,j*6,none⟩=some (O J 1)) (f0:w.frozen? ⟨gS,j*6,none⟩=false)
  (hne:B≠gS) (hO:Ea (w.setCell ⟨gS,j*6,none⟩ (O J 0)) aF cF F) (hm:F.length*8<=140737488350000) :
  Calls Tryz.prog 197 #[.pointer (some ⟨B,0,none⟩),O J j] w fun e w'=>e=.returned (.bool true)/\∃ a' c' w1,Below w.heap.size (w.setCell ⟨gS,j*6,none⟩ (O J 0)) w1 /\
   w1.ownsRow w.heap.size 3 1 (Y a' (F.length+1) c') (F.length+1) (encI (F ++ [(j:Int)]))/\w1.setCell ⟨B,2,none⟩ (Y a' (F.length+1) c')=w':=by
 obtain⟨q0,q1,q2,q3,q4,-,-,f2,-,-,qs⟩:=Aj hB
 obtain⟨i0,hi,hz0,hz1,hz2⟩:=info_parts iI
 have hne':(⟨gS,j*6,none⟩:Addr) ≠ ⟨B,2,none⟩:=by intro h;injection h with h;omega
 have HO:Hid (Ea (w.setCell ⟨gS,j*6,none⟩ (O J 0)) aF cF F):=hO
 have HN:Hid (aF=none->F.length=0/\cF=0):=fun h=>⟨by have:=HO.out.nil h;have:=HO.out.le;omega,HO.out.nil h⟩
 have HN2:Hid (aF=none->F.length=0/\F.length=0):=fun h=>⟨(HN.out h).1,(HN.out h).1⟩
 have HSr:Hid (∀ ad,aF=some ad->∀ j' u,(encI F)[j']?=some u->((w.setCell ⟨gS,j*6,none⟩ (O J 0)).alloc (.cells #[O J j] 3)).cell? (ad.add j')=some u):=(HO.out.below (Ad _ _)).src
 have HE:Hid ((encI F).length=F.length*1):=by show _=_;rw[Il,Nat.mul_one]
 have HLe:Hid (F.length<=cF):=HO.out.le
 have HMx:Hid (F.length<=9223372036854775807):=by show _<=_;omega
 clear hB hO
 go_enter Tryz.func197,Tryz.ntmps197
 go_wp2_with (first
  | (go_at_call 212;refine(b4h aF F.length cF _ HLe.out HN.out).mono ?_;rintro e w' ⟨rfl,rfl⟩)
  | (at_builtin;(refine wpList_append_grows _ rfl _ _ 23 rfl 3 i0 (O J 0) 1 8 Tryz.underlying23 hi hz0 hz1 hz2 rfl (by first|decide|exact Ex.ne _ _ (by decide)) aF F.length F.length (encI F) rfl HN2.out HE.out HSr.out ⟨w.heap.size,0,none⟩ 1 1 [O J j] rfl rfl (Zn _ _ _ _ (World.size_setCell ..).symm) (by intro u hu;simp at hu;subst hu;rfl) (by omega) (by unfold maxLen;omega) (by omega) ?_;intro v w1 hown1 hgrow1;obtain⟨g,cap,rfl⟩:=ownsRow_form hown1 (by omega);have HO1:Hid (w1.ownsRow ((w.setCell ⟨gS,j*6,none⟩ (O J 0)).alloc (.cells #[O J j] 3)).heap.size 3 1 (Y (some ⟨g,0,none⟩) (F.length+1) cap) (F.length+1) (encI F ++ [O J j])):=hown1;have HG1:Hid (((w.setCell ⟨gS,j*6,none⟩ (O J 0)).alloc (.cells #[O J j] 3)).grownBy w1 none):=hgrow1;clear hown1 hgrow1;obtain⟨r2,r3⟩:=a6a HG1.out q2 f2 hne (by simp) qs)))
 go_ret
 refine⟨rfl,_,_,w1,?_,?_,rfl⟩
 ·exact((Below.refl _ _).alloc (by simp) _).grown HG1.out (by simp) (fun k h=>by cases h)
 ·have:=ownsRow_le (base':=w.heap.size) HO1.out (by simp)
  rwa [show encI F ++ [O J (j:Int)]=encI (F ++ [(j:Int)]) by simp[encI]] at this
theorem a3v(M:Mm)(j:Nat)(hj:j<M.slots.length)(r:Int):Dp M j r=M.slots.set j { M.slots[j] with refs:=r }:=by
 simp[Dp,List.getD_eq_getElem?_getD,hj]
theorem Tv(M:Mm)(j:Nat)(hj:j<M.slots.length):Ap M j=M.slots[j].refs:=by
 simp[Ap,List.getD_eq_getElem?_getD,hj]
theorem a6y(M:Mm)(w:World)(B lo:Nat)(aS aH aF aL:Option Addr)(cS cH cF cL:Nat)(i:Int)(m:Mine Xb w B lo aS aH aF aL cS cH cF cL M)(h0:0<=i)(h1:i<M.slots.length)(hr:Ap M i=0\/Ap M i=1000) :
  Calls Tryz.prog 201 #[.pointer (some ⟨B,0,none⟩),O J i] w fun e w'=>e=.returned (.bool false)/\w=w':=by
 obtain⟨j,rfl⟩:∃ j:Nat,i=j:=⟨i.toNat,by omega⟩
 have hj:j<M.slots.length:=by omega
 obtain⟨gS,rfl,-,-,-,-⟩:=Dc m.c.s (by omega)
 rw[Tv M j hj] at hr
 exact b5k w B gS _ j cS _ _ _ _ _ m.box hj (H6 m.c.s hj).1 hr
theorem b2c(M:Mm)(w:World)(B lo:Nat)(aS aH aF aL:Option Addr)(cS cH cF cL:Nat)(i:Int)(m:Mine Xb w B lo aS aH aF aL cS cH cF cL M)(h0:0<=i)(h1:i<M.slots.length)(hr:Ap M i=0) :
  Calls Tryz.prog 197 #[.pointer (some ⟨B,0,none⟩),O J i] w fun e w'=>e=.returned (.bool false)/\w=w':=by
 obtain⟨j,rfl⟩:∃ j:Nat,i=j:=⟨i.toNat,by omega⟩
 have hj:j<M.slots.length:=by omega
 obtain⟨gS,rfl,-,-,-,-⟩:=Dc m.c.s (by omega)
 rw[Tv M j hj] at hr
 exact b9k w B gS _ j cS _ _ _ _ m.box hj (hr ▸ (H6 m.c.s hj).1)
theorem turned{M:Mm}{w:World}{B lo g j:Nat}{aH aF aL:Option Addr}{cS cH cF cL:Nat}(m:Mine Xb w B lo (some ⟨g,0,none⟩) aH aF aL cS cH cF cL M)(hj:j<M.slots.length)(r:Int) :
  Mine Xb (w.setCell ⟨g,j*6,none⟩ (O J r)) B lo (some ⟨g,0,none⟩) aH aF aL cS cH cF cL { M with slots:=Dp M j r }:=by
 rw[a3v M j hj r]
 exact m.a1q _ _ _ (a6m M.slots j hj r)
end
section
open Go.ChangeShapes Go.WideShapes Go.ChangeAt Go.RowKit Go.Joins
theorem few:∀ (n:Nat) (l:List Int),l.Nodup->(∀ a∈l,0<=a/\a<n)->l.length<=n
 | 0,l,hn,h=>by
  match l,h with
  | [],_=>simp
  | a :: _,h=>have:=h a (by simp);omega
 | n+1,l,hn,h=>by
  have h1:=few n (l.erase (n:Int)) (hn.erase _) (fun a ha=>by
   have h3:=(hn.mem_erase_iff).1 ha
   have h4:=h a h3.2
   have h5:=h3.1
   omega)
  rw[List.length_erase] at h1
  split at h1 <;> omega
end
section
open Go.ChangeShapes Go.WideShapes Go.ChangeAt Go.RowKit
theorem a9j{S:List Sl}{k:Nat}{x:Int}(h:x<=0\/k=0):H5 S k x=[]/\Ie S k x=x:=by
 cases k with
 | zero=>exact⟨rfl,rfl⟩
 | succ k =>
  have:¬ 0<x:=by omega
  simp[H5,Ie,this]
theorem walk_go{S:List Sl}{k:Nat}{x:Int}(h:0<x):H5 S (k+1) x=(x - 1) :: H5 S k (J8 S x)/\Ie S (k+1) x=Ie S k (J8 S x):=by
 simp[H5,Ie,h]
set_option maxHeartbeats 3200000 in
theorem walk_any(F:Nat)(caps:Array Value)(M:Mm)(aS aH aF aL:Option Addr)(cS cH cF cL b:Nat)(w:World)(hok:Ok M)(hb:b<M.heads.length)(hF:∀ args W,(callFunc F args).run Tryz.prog W=.ok (.enter F args) W)(I:List Int->World->Prop)
  (start:I [] (w.alloc (.cells #[Y aS M.slots.length cS,Y aH M.heads.length cH,Y aF M.free.length cF,Y aL M.locks.length cL,O J M.now] 25)))
  (box:∀ l W,I l W->W.heap[w.heap.size]?=some (.cells #[Y aS M.slots.length cS,Y aH M.heads.length cH,Y aF M.free.length cF,Y aL M.locks.length cL,O J M.now] 25 (0,0)))
  (at_:∀ l W,I l W->At W aS aH aF aL cS cH cF cL M)
  (step:∀ l (a:Nat) W,I l W->a<M.slots.length->l.length<M.slots.length->Calls Tryz.prog F (#[O J a] ++ caps) W fun e W'=>e=.returned (.tuple #[])/\I (l ++ [(a:Int)]) W') :
  Calls Tryz.prog 99 #[.agg #[Y aS M.slots.length cS,Y aH M.heads.length cH,Y aF M.free.length cF,Y aL M.locks.length cL,O J M.now],O J b,.func (.func F) #[] caps] w fun e w'=>e=.returned (.bool (U3 M b))/\I (chL M b) w':=by
 have n0:=hok.ns
 have n1:=hok.nh
 obtain⟨R,hR⟩:∃ R,R=U3 M b:=⟨_,rfl⟩
 rw[<- hR]
 have HR:Hid (R=U3 M b):=hR
 clear hR
 obtain⟨LL,hL⟩:∃ LL,LL=chL M b:=⟨_,rfl⟩
 rw[<- hL]
 have HL:Hid (LL=chL M b):=hL
 clear hL
 have HB:Hid _:=box
 have HA:Hid _:=at_
 have HS:Hid _:=step
 have HI:Hid _:=start
 have HFn:Hid _:=hF
 have hA0:=HA.out _ _ HI.out
 rcases hA0.h.at_ with h0|⟨bh,oh,rfl,hch⟩
 ·omega
 have d0:=hch b hb
 clear box at_ step start hA0 hch hF
 go_enter Tryz.func99,Tryz.ntmps99
 go_wp2
 go_loopw [18,7] (fun i n wr=>∃ k:Nat,k<=M.slots.length/\i=O J k/\∃ (l:List Int) (x:Int),n=O J x/\x<=M.slots.length/\l.length=k/\Hid (chL M b=l++H5 M.slots (M.slots.length - k) x/\chE M b=Ie M.slots (M.slots.length - k) x)/\Hid (I l wr))
  (fun i _ _=>M.slots.length - (intOf i).toNat)
 case atStart =>
  have hh:=hok.O8 hb
  have he:Ar M b=M.heads[b]:=by simp[Ar,List.getD_eq_getElem?_getD,hb]
  rw[he] at hh
  refine⟨0,Nat.zero_le _,rfl,[],_,rfl,((Ai _ _ _).1 hh.2).2,rfl,?_,HI⟩
  rw[<- he]
  exact⟨rfl,rfl⟩
 case round =>
  obtain⟨k,hk,rfl,l,x,rfl,hx,hl,HE,HW⟩:=hrel
  have hbx:=HB.out _ _ HW.out
  obtain⟨q0,q1,q2,q3,q4,f0,f1,f2,f3,f4,qs⟩:=Aj hbx
  clear hbx f0 f1 f2 f3 f4 d0
  have fin:(x<=0\/M.slots.length - k=0)->R=(x == -1 - (b:Int))/\LL=l:=fun h=>by
   have hs:=a9j (S:=M.slots) h
   have h1:=HE.out.1
   have h2:=HE.out.2
   rw[hs.1,List.append_nil] at h1
   rw[hs.2] at h2
   exact⟨by rw[HR.out,U3,h2],by rw[HL.out,h1]⟩
  have HF:Hid _:=fin
  clear fin
  by_cases hlt:k<M.slots.length
  ·by_cases hx0:x<=0
   ·go_wp2_with (first
     | (go_at_call 140;refine(Q7 _ _ hx0).mono ?_;rintro e w1 ⟨rfl,rfl⟩)
     | (go_at_call 108;refine(Jd _ _ (by omega) (by omega)).mono ?_;rintro e w1 ⟨rfl,rfl⟩))
    go_ret
    obtain⟨e1,e2⟩:=HF.out (.inl hx0)
    rw[e1,e2]
    exact⟨rfl,HW.out⟩
   ·obtain⟨j,rfl⟩:∃ j:Nat,x=(j:Int)+1:=⟨(x - 1).toNat,by omega⟩
    have hj:j<M.slots.length:=by omega
    have hj1:(0:Int)<(j:Int)+1:=by omega
    have HE2:Hid (chL M b=(l ++ [(j:Int)])++H5 M.slots (M.slots.length - (k+1)) M.slots[j].next/\chE M b=Ie M.slots (M.slots.length - (k+1)) M.slots[j].next):=by
     have hg:=walk_go (S:=M.slots) (k:=M.slots.length - (k+1)) hj1
     rw[show M.slots.length - (k+1)+1=M.slots.length - k by omega] at hg
     have hn:J8 M.slots ((j:Int)+1)=M.slots[j].next:=by
      unfold J8
      rw[show ((j:Int)+1 - 1).toNat=j by omega,getD_lt _ _ hj]
     rw[hn] at hg
     refine⟨?_,by rw[HE.out.2,hg.2]⟩
     rw[HE.out.1,hg.1,List.append_assoc,show (j:Int)+1 - 1=j by omega]
     rfl
    have hnx:=((Ai _ _ _).1 (Gf (hok.slot _ (List.getElem_mem hj))).2.2.2).2
    clear HE
    go_wp2_with (first
     | (go_at_call 140;refine(Q5 _ _ hj1 (by omega)).mono ?_;rw[show (j:Int)+1 - 1=j by omega];rintro e w1 ⟨rfl,rfl⟩))
    rw[HFn.out]
    refine(HS.out l j wr HW.out hj (by omega)).mono ?_
    rintro e w2 ⟨rfl,hI2⟩
    have HW2:Hid _:=hI2
    have hbx2:=HB.out _ _ hI2
    have hA2:=HA.out _ _ hI2
    clear q0 q1 q2 q3 q4 qs hI2
    obtain⟨q0,q1,q2,q3,q4,f0,f1,f2,f3,f4,qs⟩:=Aj hbx2
    clear hbx2 f0 f1 f2 f3 f4
    rcases hA2.s.at_ with h0|⟨bs,os,rfl,hcs⟩
    ·omega
    have c5:=(hcs j hj).2.2.2.2.2
    clear hA2 hcs
    go_wp2
    go_roundw
    case rel=>exact⟨k+1,by omega,by go_num,_,_,rfl,hnx,by simp[hl],HE2,HW2⟩
    case measure=>simp[intOf];omega
  ·go_wp2_with (first
    | (go_at_call 108;refine(Jd _ _ (by omega) (by omega)).mono ?_;rintro e w1 ⟨rfl,rfl⟩))
   go_ret
   obtain⟨e1,e2⟩:=HF.out (.inr (by omega))
   rw[e1,e2]
   exact⟨rfl,HW.out⟩
end
section
open Go.ChangeShapes Go.WideShapes Go.ChangeAt Go.RowKit Go.Joins
theorem keyf{w:World}{B:Nat}{v0 v1:Value}{t:TypeId}(h:w.heap[B]?=some (.cells #[v0,v1] t (0,0))):w.cell? ⟨B,0,none⟩=some v0/\w.cell? ⟨B,1,none⟩=some v1 :=
 ⟨by rw[cell_of_block h];rfl,by rw[cell_of_block h];rfl⟩
end
section
open Go.ChangeShapes Go.WideShapes Go.ChangeAt Go.RowKit Go.Joins
structure Gr(w0:World)(lo B:Nat)(w:World)(sv hv fv lv:Value)(S:List Sl)(H F L:List Int):Prop where
 box:w.heap[B]?=some (.cells #[sv,hv,fv,lv,O J 0] 25 (0,0))
 s:w.ownsRow lo 64 6 sv S.length (encS S)
 h:w.ownsRow lo 3 1 hv H.length (encI H)
 f:w.ownsRow lo 3 1 fv F.length (encI F)
 l:w.ownsRow lo 3 1 lv L.length (encI L)
 hf:Dj hv fv
 hl:Dj hv lv
 fl:Dj fv lv
 at_:lo<=B
 below:Below lo w0 w
theorem J3{w w1:World}{ob:Obj}{lo size n:Nat}{e:TypeId}{v u:Value}{xs:List Value}(h:w.ownsRow lo e size v n xs)(hg:(w.alloc ob).grownBy w1 u.ownBlock)(hd:Dj v u){B j:Nat}{x:Value}(hne:v.ownBlock≠some B):(w1.setCell ⟨B,j,none⟩ x).ownsRow lo e size v n xs :=
 ownsRow_setCell_other ((h.alloc ob).kept hg hd.ne) hne x
theorem F6{w w1:World}{ob:Obj}{B:Nat}{u:Value}{o:Obj}(hB:w.heap[B]?=some o)(hg:(w.alloc ob).grownBy w1 u.ownBlock)(hne:u.ownBlock≠some B):w1.heap[B]?=some o:=by
 have:=lt_of_block hB
 rw[hg.block B (by simp;omega) (fun e=>hne e.symm),Below.heap_alloc _ _ _ this,hB]
theorem Iz{w0 w w1:World}{ob:Obj}{lo B j:Nat}{u x:Value}(hb:Below lo w0 w)(hg:(w.alloc ob).grownBy w1 u.ownBlock)(hu:∀ k,u.ownBlock=some k->lo<=k)(hl:lo<=w.heap.size)(hB:lo<=B):Below lo w0 (w1.setCell ⟨B,j,none⟩ x) :=
 ((hb.alloc hl ob).grown hg (by simp;omega) hu).setCell hB x
theorem Ny{w:World}{lo size n B j:Nat}{e:TypeId}{v x:Value}{xs:List Value}(h:w.ownsRow lo e size v n xs)(hne:v.ownBlock≠some B):(w.setCell ⟨B,j,none⟩ x).ownsRow lo e size v n xs :=
 ownsRow_setCell_other h hne x
theorem Gr.b8s{w0 w w1:World}{lo B:Nat}{sv hv fv lv v':Value}{S:List Sl}{H F L:List Int}{ob:Obj}{x:Int}(G:Gr w0 lo B w sv hv fv lv S H F L)
  (ho:w1.ownsRow lo 3 1 v' (H.length+1) (encI H ++ [O J x])) (hg:(w.alloc ob).grownBy w1 hv.ownBlock) (hloc:v'.ownBlock=hv.ownBlock\/v'.ownBlock=some (w.alloc ob).heap.size) :
  Gr w0 lo B (w1.setCell ⟨B,1,none⟩ v') sv v' fv lv S (H ++ [x]) F L:=by
 have hB:=F6 G.box hg (own_ne G.h G.box (by first|decide|exact Ex.ne _ _ (by decide)))
 have hne:v'.ownBlock≠some B:=own_ne ho hB (by first|decide|exact Ex.ne _ _ (by decide))
 have hlt:∀ {u:Value} {n size:Nat} {e:TypeId} {xs:List Value},w.ownsRow lo e size u n xs->∀ g,u.ownBlock=some g->g<(w.alloc ob).heap.size:=fun h g hg=>by have:=(h.lt g hg).2;simp;omega
 have hz:lo<=w.heap.size:=by have:=lt_of_block G.box;have:=G.at_;omega
 refine⟨?_,?_,?_,?_,?_,?_,?_,?_,G.at_,Iz G.below hg (fun k hk=>(G.h.lt k hk).1) hz G.at_⟩
 ·have:=block_setCell (i:=1) hB v'
  simpa using this
 ·exact J3 G.s hg (I5 G.s G.h (by first|decide|exact Ex.ne _ _ (by decide))) (own_ne G.s G.box (by first|decide|exact Ex.ne _ _ (by decide)))
 ·have:=Ny (j:=1) (x:=v') ho hne
  rwa [show encI H ++ [O J x]=encI (H ++ [x]) by simp[encI],show H.length+1=(H ++ [x]).length by simp] at this
 ·exact J3 G.f hg ((G.hf).symm) (own_ne G.f G.box (by first|decide|exact Ex.ne _ _ (by decide)))
 ·exact J3 G.l hg ((G.hl).symm) (own_ne G.l G.box (by first|decide|exact Ex.ne _ _ (by decide)))
 ·exact(Dj.grown (w:=w.alloc ob) ((G.hf).symm) (hlt G.f) hloc).symm
 ·exact(Dj.grown (w:=w.alloc ob) ((G.hl).symm) (hlt G.l) hloc).symm
 ·exact G.fl
theorem Gr.b8r{w0 w w1:World}{lo B:Nat}{sv hv fv lv v':Value}{S:List Sl}{H F L:List Int}{ob:Obj}{x:Int}(G:Gr w0 lo B w sv hv fv lv S H F L)
  (ho:w1.ownsRow lo 3 1 v' (F.length+1) (encI F ++ [O J x])) (hg:(w.alloc ob).grownBy w1 fv.ownBlock) (hloc:v'.ownBlock=fv.ownBlock\/v'.ownBlock=some (w.alloc ob).heap.size) :
  Gr w0 lo B (w1.setCell ⟨B,2,none⟩ v') sv hv v' lv S H (F ++ [x]) L:=by
 have hB:=F6 G.box hg (own_ne G.f G.box (by first|decide|exact Ex.ne _ _ (by decide)))
 have hne:v'.ownBlock≠some B:=own_ne ho hB (by first|decide|exact Ex.ne _ _ (by decide))
 have hlt:∀ {u:Value} {n size:Nat} {e:TypeId} {xs:List Value},w.ownsRow lo e size u n xs->∀ g,u.ownBlock=some g->g<(w.alloc ob).heap.size:=fun h g hg=>by have:=(h.lt g hg).2;simp;omega
 have hz:lo<=w.heap.size:=by have:=lt_of_block G.box;have:=G.at_;omega
 refine⟨?_,?_,?_,?_,?_,?_,?_,?_,G.at_,Iz G.below hg (fun k hk=>(G.f.lt k hk).1) hz G.at_⟩
 ·have:=block_setCell (i:=2) hB v'
  simpa using this
 ·exact J3 G.s hg (I5 G.s G.f (by first|decide|exact Ex.ne _ _ (by decide))) (own_ne G.s G.box (by first|decide|exact Ex.ne _ _ (by decide)))
 ·exact J3 G.h hg (G.hf) (own_ne G.h G.box (by first|decide|exact Ex.ne _ _ (by decide)))
 ·have:=Ny (j:=2) (x:=v') ho hne
  rwa [show encI F ++ [O J x]=encI (F ++ [x]) by simp[encI],show F.length+1=(F ++ [x]).length by simp] at this
 ·exact J3 G.l hg ((G.fl).symm) (own_ne G.l G.box (by first|decide|exact Ex.ne _ _ (by decide)))
 ·exact Dj.grown (w:=w.alloc ob) (G.hf) (hlt G.h) hloc
 ·exact G.hl
 ·exact(Dj.grown (w:=w.alloc ob) ((G.fl).symm) (hlt G.l) hloc).symm
theorem Gr.b8y{w0 w w1:World}{lo B:Nat}{sv hv fv lv v':Value}{S:List Sl}{H F L:List Int}{ob:Obj}{x:Int}(G:Gr w0 lo B w sv hv fv lv S H F L)
  (ho:w1.ownsRow lo 3 1 v' (L.length+1) (encI L ++ [O J x])) (hg:(w.alloc ob).grownBy w1 lv.ownBlock) (hloc:v'.ownBlock=lv.ownBlock\/v'.ownBlock=some (w.alloc ob).heap.size) :
  Gr w0 lo B (w1.setCell ⟨B,3,none⟩ v') sv hv fv v' S H F (L ++ [x]):=by
 have hB:=F6 G.box hg (own_ne G.l G.box (by first|decide|exact Ex.ne _ _ (by decide)))
 have hne:v'.ownBlock≠some B:=own_ne ho hB (by first|decide|exact Ex.ne _ _ (by decide))
 have hlt:∀ {u:Value} {n size:Nat} {e:TypeId} {xs:List Value},w.ownsRow lo e size u n xs->∀ g,u.ownBlock=some g->g<(w.alloc ob).heap.size:=fun h g hg=>by have:=(h.lt g hg).2;simp;omega
 have hz:lo<=w.heap.size:=by have:=lt_of_block G.box;have:=G.at_;omega
 refine⟨?_,?_,?_,?_,?_,?_,?_,?_,G.at_,Iz G.below hg (fun k hk=>(G.l.lt k hk).1) hz G.at_⟩
 ·have:=block_setCell (i:=3) hB v'
  simpa using this
 ·exact J3 G.s hg (I5 G.s G.l (by first|decide|exact Ex.ne _ _ (by decide))) (own_ne G.s G.box (by first|decide|exact Ex.ne _ _ (by decide)))
 ·exact J3 G.h hg (G.hl) (own_ne G.h G.box (by first|decide|exact Ex.ne _ _ (by decide)))
 ·exact J3 G.f hg (G.fl) (own_ne G.f G.box (by first|decide|exact Ex.ne _ _ (by decide)))
 ·have:=Ny (j:=3) (x:=v') ho hne
  rwa [show encI L ++ [O J x]=encI (L ++ [x]) by simp[encI],show L.length+1=(L ++ [x]).length by simp] at this
 ·exact G.hf
 ·exact Dj.grown (w:=w.alloc ob) (G.hl) (hlt G.h) hloc
 ·exact Dj.grown (w:=w.alloc ob) (G.fl) (hlt G.f) hloc
theorem Gr.ans{w0 w:World}{lo B:Nat}{sv hv fv lv:Value}{S:List Sl}{H F L:List Int}(G:Gr w0 lo B w sv hv fv lv S H F L)(h1:S.length*48<=140737488351232)(h2:H.length*8<=140737488351232)(h3:F.length*8<=140737488351232)(h4:L.length*8<=140737488351232) :
  Ans lo w (.agg #[sv,hv,fv,lv,O J 0]) ⟨S,H,F,L,0⟩:=by
 have ks:=G.s.lt;have kh:=G.h.lt;have kf:=G.f.lt;have kl:=G.l.lt
 obtain⟨aS,cS,rfl,rs⟩:=Jy.Lj G.s h1
 obtain⟨aH,cH,rfl,rh⟩:=Ea.Lj G.h h2
 obtain⟨aF,cF,rfl,rf⟩:=Ea.Lj G.f h3
 obtain⟨aL,cL,rfl,rl⟩:=Ea.Lj G.l h4
 refine⟨aS,aH,aF,aL,cS,cH,cF,cL,rfl,⟨rs,rh,rf,rl⟩,⟨?_,?_,?_,?_⟩⟩
 ·rintro ad rfl;exact(ks _ rfl).1
 ·rintro ad rfl;exact(kh _ rfl).1
 ·rintro ad rfl;exact(kf _ rfl).1
 ·rintro ad rfl;exact(kl _ rfl).1
end
section
open Go.ChangeShapes Go.WideShapes Go.ChangeAt Go.RowKit Go.Joins
structure Lst(w0:World)(B Yq:Nat)(t e:TypeId)(size:Nat)(ob:Array Value)(W:World)(n:Nat)(xs:List Value):Prop where
 var:∃ v,W.heap[B]?=some (.cells #[v] t (0,0))/\W.ownsRow (B+1) e size v n xs
 box:W.heap[Yq]?=some (.cells ob 25 (0,0))
 below:Below B w0 W
 ne:B≠Yq
theorem Aq{W:World}{B:Nat}{v:Value}{t:TypeId}(h:W.heap[B]?=some (.cells #[v] t (0,0))):W.cell? ⟨B,0,none⟩=some v/\W.frozen? ⟨B,0,none⟩=false/\B<W.heap.size :=
 ⟨by rw[cell_of_block h];rfl,unfrozen_of_block h _,lt_of_block h⟩
theorem Lst.step{w0 W w1:World}{B Yq:Nat}{t e:TypeId}{size n m:Nat}{ob:Array Value}{xs news:List Value}{v v':Value}{o1:Obj}(hB:W.heap[B]?=some (.cells #[v] t (0,0)))(ho:W.ownsRow (B+1) e size v n xs)
  (hY:W.heap[Yq]?=some (.cells ob 25 (0,0))) (hb:Below B w0 W) (hne:B≠Yq) (n1:e≠t) (n2:e≠25) (hg:(W.alloc o1).grownBy w1 v.ownBlock) (ho':w1.ownsRow (B+1) e size v' (n+m) (xs++news)) :
  Lst w0 B Yq t e size ob (w1.setCell ⟨B,0,none⟩ v') (n+m) (xs++news):=by
 have lB:=lt_of_block hB
 have lY:=lt_of_block hY
 have hvB:=own_ne ho hB n1
 have hvY:=own_ne ho hY n2
 have kB:w1.heap[B]?=some (.cells #[v] t (0,0)):=F6 hB hg hvB
 have kY:w1.heap[Yq]?=some (.cells ob 25 (0,0)):=F6 hY hg hvY
 have hu:∀ k,v.ownBlock=some k->B<=k:=fun k hk=>by
  have:=(ho.lt k hk).1
  omega
 refine⟨⟨v',?_,Ny ho' (own_ne ho' kB n1)⟩,(Below.heap_setCell _ _ _ _ (by dsimp only;omega)).trans kY,?_,hne⟩
 ·have:=block_setCell (i:=0) kB v'
  rw[this];rfl
 ·exact Iz hb hg hu (by omega) (Nat.le_refl _)
set_option maxHeartbeats 800000 in
theorem app85(w0 W:World)(B Yq:Nat)(ob:Array Value)(l:List Int)(a:Int)(L:Lst w0 B Yq 23 3 1 ob W l.length (encI l))(hl:l.length<=12) :
  Calls Tryz.prog 139 #[O J a,.pointer (some ⟨B,0,none⟩)] W fun e W'=>e=.returned (.tuple #[])/\Lst w0 B Yq 23 3 1 ob W' (l ++ [a]).length (encI (l ++ [a])):=by
 obtain⟨i0,hi,hz0,hz1,hz2⟩:=info_parts iI
 obtain⟨⟨v,hB,ho⟩,hY,hb,hne⟩:=L
 obtain⟨ao,cap,rfl⟩:=D9 ho
 obtain⟨c0,f0,lB⟩:=Aq hB
 have HB:Hid _:=hB
 have HY:Hid _:=hY
 clear hB hY
 go_enter Tryz.func139,Tryz.ntmps139
 go_wp2_with (at_builtin;refine wpList_append_own_at _ rfl (.tmp 3) (.tmp 5) 23 rfl (B+1) 3 i0 (O J 0) 1 8 Tryz.underlying23 hi hz0 hz1 hz2 rfl (by first|decide|exact Ex.ne _ _ (by decide)) _ _ _ rfl (ho.alloc _) ⟨W.heap.size,0,none⟩ 1 1 [O J a] rfl rfl (cell_one_new _ _ _) (by intro u hu;simp at hu;subst hu;rfl) (by unfold maxLen;omega) (by omega) (by simp;omega) ?_;intro v2 w2 ho2 hg2 _ hloc2;obtain⟨g2,cap2,rfl⟩:=ownsRow_form ho2 (by omega);have HL:Hid _:=Lst.step HB.out ho HY.out hb hne (by first|decide|exact Ex.ne _ _ (by decide)) (by first|decide|exact Ex.ne _ _ (by decide)) hg2 ho2;obtain⟨d0,e0,lB2⟩:=Aq (F6 HB.out hg2 (own_ne ho HB.out (by first|decide|exact Ex.ne _ _ (by decide))));clear c0 f0 lB ho2 hg2 hloc2)
 go_end0
 refine⟨rfl,?_⟩
 have:=HL.out
 rw[show (l ++ [a]).length=l.length+1 by simp,show encI (l ++ [a])=encI l ++ [O J a] by simp[encI]]
 exact this
theorem fn85:∀ args W,(callFunc 139 args).run Tryz.prog W=.ok (.enter 139 args) W:=fun _ _=>by kernel_rfl
theorem Q9(S:List Sl):∀ (k:Nat) (n:Int),(H5 S k n).length<=k
 | 0,_=>by simp[H5]
 | k+1,n=>by
  simp only[H5]
  split
  ·have:=Q9 S k (J8 S n);simp;omega
  ·simp
def Oh(M:Mm)(b:Nat):Int:=if U3 M b then 0 else 4
def Nk(M:Mm)(b:Nat):List Int:=if U3 M b then chL M b else []
set_option maxHeartbeats 1600000 in
theorem a1t(M:Mm)(aS aH aF aL:Option Addr)(cS cH cF cL b:Nat)(w:World)(A:At w aS aH aF aL cS cH cF cL M)(hok:Ok M)(hb:b<M.heads.length) :
  Calls Tryz.prog 98 #[.agg #[Y aS M.slots.length cS,Y aH M.heads.length cH,Y aF M.free.length cF,Y aL M.locks.length cL,O J M.now],O J b] w fun e w' =>
   ∃ ao cap,e=.returned (.tuple #[Y ao (Nk M b).length cap,O J (Oh M b)])/\Ea w' ao cap (Nk M b)/\Below w.heap.size w w':=by
 obtain⟨E0,hE0⟩:∃ E0,E0=Oh M b:=⟨_,rfl⟩
 obtain⟨L0,hL0⟩:∃ L0,L0=Nk M b:=⟨_,rfl⟩
 rw[<- hE0,<- hL0]
 have HE0:Hid (E0=Oh M b):=hE0
 have HL0:Hid (L0=Nk M b):=hL0
 clear hE0 hL0
 have n0:=hok.ns
 obtain⟨o1,ho1⟩:∃ o:Obj,o=.cells #[Y aS M.slots.length cS,Y aH M.heads.length cH,Y aF M.free.length cF,Y aL M.locks.length cL,O J M.now] 25:=⟨_,rfl⟩
 obtain⟨o2,ho2⟩:∃ o:Obj,o=.cells #[Y none 0 0] 23:=⟨_,rfl⟩
 have b0:Below w.heap.size w ((w.alloc o1).alloc o2):=below_alloc2 w o1 o2
 have HB0:Hid (((w.alloc o1).alloc o2).heap[w.heap.size]?=some o1):=by show _=_;rw[Below.heap_alloc _ _ _ (by simp),heap_alloc_new]
 have HV0:Hid (((w.alloc o1).alloc o2).heap[w.heap.size+1]?=some o2):=by
  have:=heap_alloc_new (w.alloc o1) o2
  rwa [show (w.alloc o1).heap.size=w.heap.size+1 by simp] at this
 have HZ0:Hid (((w.alloc o1).alloc o2).heap.size=w.heap.size+2):=by show _=_;simp
 have HA0:Hid _:=A.below b0
 have hmf:∀ (fn:Fn) (first cap:Array Value) (w:World),(Instr.makeFunc fn first cap).run Tryz.prog w=.ok (.func fn first cap) w:=fun _ _ _ _=>rfl
 go_enter Tryz.func98,Tryz.ntmps98
 go_wp2_with fail
 rw[<- ho1,<- ho2]
 generalize (w.alloc o1).alloc o2=W0 at *
 subst ho1 ho2
 have hstart:Lst W0 (w.heap.size+1) W0.heap.size 23 3 1 #[Y aS M.slots.length cS,Y aH M.heads.length cH,Y aF M.free.length cF,Y aL M.locks.length cL,O J M.now] (W0.alloc (.cells #[Y aS M.slots.length cS,Y aH M.heads.length cH,Y aF M.free.length cF,Y aL M.locks.length cL,O J M.now] 25)) ([]:List Int).length (encI []):=by
  have z:=HZ0.out
  refine⟨⟨Y none 0 0,?_,World.ownsRow_nil _ _ _ _⟩,heap_alloc_new _ _,(Below.refl _ _).alloc (by omega) _,by omega⟩
  rw[Below.heap_alloc _ _ _ (by omega)]
  exact HV0.out
 have HAw:Hid _:=A
 clear A
 refine(walk_any 139 #[.pointer (some ⟨w.heap.size+1,0,none⟩)] M aS aH aF aL cS cH cF cL b W0 hok hb fn85 (fun l W=>Lst W0 (w.heap.size+1) W0.heap.size 23 3 1 #[Y aS M.slots.length cS,Y aH M.heads.length cH,Y aF M.free.length cF,Y aL M.locks.length cL,O J M.now] W l.length (encI l)) hstart (fun l W h=>h.box) (fun l W h=>HAw.out.below (b0.trans (h.below.mono (by omega)))) ?_).mono ?_
 ·intro l a W hL ha hl
  exact app85 _ _ _ _ _ _ _ hL (by omega)
 rintro e w1 ⟨rfl,hL1⟩
 have HL1:Hid _:=hL1
 have HB1:Hid (Below w.heap.size w w1):=b0.trans (hL1.below.mono (by omega))
 obtain⟨⟨v,hv,ho⟩,-,-,-⟩:=hL1
 have hm:(chL M b).length<=12:=Nat.le_trans (Q9 _ _ _) n0
 obtain⟨ao,cap,rfl,hrow⟩:=Ea.Lj ho (by omega)
 obtain⟨c0,f0,lB⟩:=Aq hv
 have HRow:Hid _:=hrow
 clear hv ho hrow HL1 hstart HB0 HV0 HZ0 HA0 b0
 cases hc:U3 M b
 ·have HV:Hid (E0=4/\L0=[]):=⟨HE0.out.trans (by unfold Oh;rw[hc];rfl),HL0.out.trans (by unfold Nk;rw[hc];rfl)⟩
  go_wp2
  go_ret2
  refine⟨none,0,?_,?_,HB1.out⟩
  ·rw[HV.out.1,HV.out.2];rfl
  ·rw[HV.out.2];exact⟨by decide,by decide,fun _=>rfl,.inl rfl⟩
 ·have HV:Hid (E0=0/\L0=chL M b):=⟨HE0.out.trans (by unfold Oh;rw[hc];rfl),HL0.out.trans (by unfold Nk;rw[hc];rfl)⟩
  go_wp2
  go_ret2
  refine⟨ao,cap,?_,?_,HB1.out⟩
  ·rw[HV.out.1,HV.out.2];rfl
  ·rw[HV.out.2];exact HRow.out
end
section
open Go.ChangeShapes Go.WideShapes Go.ChangeAt Go.RowKit Go.Joins Go.Maps
theorem Jc{M:Mm}{j:Nat}(h:j<M.slots.length):A7 M j=M.slots[j]:=by simp[A7,List.getD_eq_getElem?_getD,h]
set_option maxHeartbeats 1600000 in
theorem Y6(M:Mm)(aS aH aF aL:Option Addr)(cS cH cF cL b j g:Nat)(all:List Int)(w:World)(A:At w aS aH aF aL cS cH cF cL M)(hok:Ok M)(hb:b<M.heads.length)(hj:j<M.slots.length)(hm:MapAt M w g all) :
  Calls Tryz.prog 125 #[.agg #[Y aS M.slots.length cS,Y aH M.heads.length cH,Y aF M.free.length cF,Y aL M.locks.length cL,O J M.now],O J b,O J j,.map (some g)] w fun e w'=>e=.returned (O J (Ja M b all j))/\Below w.heap.size w w':=by
 obtain⟨E0,hE0⟩:∃ E0,E0=Ja M b all j:=⟨_,rfl⟩
 rw[<- hE0]
 have HE0:Hid (E0=Ja M b all j):=hE0
 clear hE0
 have n0:=hok.ns
 have n1:=hok.nh
 have hgood:=Gf (hok.slot _ (List.getElem_mem hj))
 have hs:A7 M j=M.slots[j]:=Jc hj
 have HM:Hid (MapAt M w g all):=hm
 have gl:=hm.lt
 clear hm
 rcases A.s.at_ with h0|⟨bs,os,rfl,hc⟩
 ·omega
 obtain⟨c0,c1,c2,c3,c4,c5⟩:=hc j hj
 have lt:=cell_lt c0
 clear hc A
 generalize hsl:M.slots[j]=s at c0 c1 c2 c3 c4 c5
 rw[hsl] at hgood hs
 obtain⟨r,ka,kb,u,i,nx⟩:=s
 dsimp only at c0 c1 c2 c3 c4 c5 hgood
 have HSL:Hid (A7 M j=⟨r,ka,kb,u,i,nx⟩):=hs
 clear hsl hs
 have hkey:=hgood.2.2.1
 clear hgood
 have hbw:Below w.heap.size w ((w.alloc (.cells #[Y (some ⟨bs,os,none⟩) M.slots.length cS,Y aH M.heads.length cH,Y aF M.free.length cF,Y aL M.locks.length cL,O J M.now] 25)).alloc (.cells #[O J r,O J ka,O J kb,O J u,.bool i,O J nx] 64)):=below_alloc2 w _ _
 by_cases hr:r=0
 ·subst hr
  have HV:Hid (E0=5):=HE0.out.trans (by unfold Ja;rw[HSL.out,if_pos (.inl rfl)])
  go_enter Tryz.func125,Tryz.ntmps125
  go_wp2
  go_ret
  exact⟨Dt HV.out.symm,hbw⟩
 have hr':(r==0)=false:=by simpa using hr
 cases i
 ·have HV:Hid (E0=5):=HE0.out.trans (by unfold Ja;rw[HSL.out,if_pos (.inr rfl)])
  go_enter Tryz.func125,Tryz.ntmps125
  go_wp2
  go_ret
  exact⟨Dt HV.out.symm,hbw⟩
 have HC:Hid (E0=if Eh ka kb M.heads.length≠b then 4 else if hasK M all (ka,kb) then 6 else 0):=HE0.out.trans (by
  have hk:keyAt M j=(ka,kb):=by unfold keyAt;rw[HSL.out]
  unfold Ja
  rw[hk,HSL.out]
  dsimp only
  rw[if_neg (by rintro (h|h);exact hr h;cases h)])
 have HK:Hid (Ee ka kb=true):=hkey
 clear hkey HE0
 go_enter Tryz.func125,Tryz.ntmps125
 go_wp2_with fail
 refine(U2 _ _ _ _ HK.out n1.1 n1.2).mono ?_
 rintro e w1 ⟨rfl,hb1⟩
 have hbx:Below w.heap.size w w1:=hbw.trans (hb1.mono (by simp;omega))
 have s1:w1.cell? ⟨w.heap.size+1,1,none⟩=some (O J ka):=((Eg hb1).1 _ _ (by simp)).trans (by simp)
 have s2:w1.cell? ⟨w.heap.size+1,2,none⟩=some (O J kb):=((Eg hb1).1 _ _ (by simp)).trans (by simp)
 have hl:=MapAt.look (MapAt.kept HM.out (hbx.block g gl)) HK.out
 clear hb1 hbw c0 c1 c2 c3 c4 c5
 by_cases hbb:Eh ka kb M.heads.length=b
 ·have HD:Hid (E0=if hasK M all (ka,kb) then 6 else 0):=HC.out.trans (by rw[if_neg (by simpa using hbb)])
  rw[hbb]
  have hbe:((b:Int) != (b:Int))=false:=by simp
  cases hh:hasK M all (ka,kb)
  ·rw[hh] at hl
   have HV:Hid (E0=0):=HD.out.trans (by rw[hh];rfl)
   clear HC HD
   go_wp2
   go_ret
   exact⟨Dt HV.out.symm,hbx⟩
  ·rw[hh] at hl
   have HV:Hid (E0=6):=HD.out.trans (by rw[hh];rfl)
   clear HC HD
   go_wp2
   go_ret
   exact⟨Dt HV.out.symm,hbx⟩
 ·have hbe:(Eh ka kb M.heads.length != (b:Int))=true:=by simpa using hbb
  have HV:Hid (E0=4):=HC.out.trans (by rw[if_pos hbb])
  clear HC
  generalize Eh ka kb M.heads.length=q at *
  go_wp2
  go_ret
  exact⟨Dt HV.out.symm,hbx⟩
end
section
open Go.ChangeShapes Go.WideShapes Go.ChangeAt Go.RowKit Go.Joins Go.Maps
theorem a2d{S:List Sl}{N:Nat}(hs:∀ s∈S,s.next<=N):∀ (k:Nat) (n:Int),n<=N->∀ a∈H5 S k n,0<=a/\a<N
 | 0,_,_,_,ha=>by cases ha
 | k+1,n,hn,a,ha=>by
  simp only[H5] at ha
  split at ha
  ·rename_i h0
   rcases List.mem_cons.1 ha with rfl|ha
   ·omega
   ·refine a2d hs k (J8 S n) ?_ a ha
    unfold J8
    by_cases hx:(n - 1).toNat<S.length
    ·rw[getD_lt S _ hx];exact hs _ (List.getElem_mem hx)
    ·rw[List.getD_eq_getElem?_getD,List.getElem?_eq_none (by omega)];show (0:Int)<=N;omega
  ·cases ha
theorem Ok.chIn{M:Mm}(h:Ok M){b:Nat}(hb:b<M.heads.length):∀ a∈chL M b,0<=a/\a<M.slots.length :=
 a2d (fun s hs=>((Ai _ _ _).1 (Gf (h.slot s hs)).2.2.2).2) _ _ ((Ai _ _ _).1 (h.O8 hb).2).2
theorem b0b{w:World}{g o:Nat}{es:Array MapEntry}{clock:Nat}(h:w.heap[g]?=some (.map es clock)):w.cell? ⟨g,o,none⟩=none:=by
 unfold World.cell?
 rw[h]
theorem Ea.turn{w w':World}{ao:Option Addr}{cap g:Nat}{l:List Int}{es:Array MapEntry}{clock:Nat}(r:Ea w ao cap l)(hg:w.heap[g]?=some (.map es clock))(h:∀ k,k<w.heap.size->k≠g->w'.heap[k]?=w.heap[k]?):Ea w' ao cap l:=by
 refine⟨r.le,r.max,r.nil,?_⟩
 rcases r.at_ with h0|⟨b,o,e,hc⟩
 ·exact .inl h0
 ·refine .inr ⟨b,o,e,fun i hi=>?_⟩
  have hne:b≠g:=by
   rintro rfl
   have:=hc i hi
   rw[b0b hg] at this
   cases this
  rw[World.cell?_of_block (a:=⟨b,o+i,none⟩) (h b (cell_lt (hc i hi)) hne)]
  exact hc i hi
theorem MapAt.blk{M:Mm}{w:World}{g:Nat}{l:List Int}(h:MapAt M w g l):∃ es clock,w.heap[g]?=some (.map es clock):=by
 obtain⟨n,hn,D,⟨es,clock,hg,F,hs,hD⟩,hat⟩:=h
 exact⟨es,clock,hg⟩
theorem Pn(M:Mm):∀ b:Nat,(Bg M b).length<=b*M.slots.length
 | 0=>by simp[Bg]
 | b+1=>by
  rw[Jb,List.length_append,Nat.succ_mul]
  have:=Pn M b
  have:(chL M b).length<=M.slots.length:=Q9 _ _ _
  omega
def MapIs(M:Mm)(Z:Int)(lo:Nat)(w:World)(v:Value):Prop:=(Z≠0->v=.map none)/\(Z=0->∃ g,v=.map (some g)/\lo<=g/\MapAt M w g (Ba M))
set_option maxHeartbeats 6400000 in
theorem a3k(M:Mm)(aS aH aF aL:Option Addr)(cS cH cF cL:Nat)(w:World)(A:At w aS aH aF aL cS cH cF cL M) :
  Calls Tryz.prog 76 #[.agg #[.slice aS M.slots.length cS,.slice aH M.heads.length cH,.slice aF M.free.length cF,.slice aL M.locks.length cL,.int .i64 M.now]] w fun e w'=>∃ v,e=.returned (.tuple #[v,.int .i64 (O4 M)])/\MapIs M (O4 M) w.heap.size w' v/\Below w.heap.size w w':=by
 obtain⟨Z,hZ⟩:∃ Z,Z=O4 M:=⟨_,rfl⟩
 rw[<- hZ]
 have HZ:Hid (Z=O4 M):=hZ
 clear hZ
 obtain⟨o1,ho1⟩:∃ o:Obj,o=.cells #[.slice aS M.slots.length cS,.slice aH M.heads.length cH,.slice aF M.free.length cF,.slice aL M.locks.length cL,.int .i64 M.now] 25:=⟨_,rfl⟩
 have b0:Below w.heap.size w (w.alloc o1):=Ad w o1
 have HB0:Hid ((w.alloc o1).heap[w.heap.size]?=some o1):=heap_alloc_new _ _
 have HA:Hid (At w aS aH aF aL cS cH cF cL M):=A
 have HA0:Hid _:=A.below b0
 clear A
 go_enter Tryz.func76,Tryz.ntmps76
 go_wp2_with fail
 rw[<- ho1]
 generalize w.alloc o1=W0 at *
 subst ho1
 refine(check_any M aS aH aF aL cS cH cF cL W0 HA0.out).mono ?_
 rintro e w1 ⟨rfl,hb1⟩
 have b1:=b0.trans (hb1.mono b0.size)
 have HB1:Hid _:=(hb1.block w.heap.size (lt_of_block HB0.out)).trans HB0.out
 clear hb1 b0 HB0 HA0
 by_cases hE:chk M=0
 rotate_left
 ·have h':(chk M != 0)=true:=by simpa using hE
  have HV:Hid (Z=chk M):=HZ.out.trans (by unfold O4;rw[if_pos hE])
  have HN:Hid (chk M≠0):=hE
  clear HB1
  generalize chk M=E at *
  go_wp2
  go_ret2
  exact⟨_,by rw[HV.out];rfl,⟨fun _=>rfl,fun h=>absurd (HV.out ▸ h) HN.out⟩,b1⟩
 have hok:=(Nl M).1 hE
 have n0:=hok.ns
 have n1:=hok.nh
 have HC:Hid (Z=Uw M M.heads.length 0 []):=HZ.out.trans (by unfold O4;rw[if_neg (by simpa using hE)])
 rw[hE]
 clear hE HZ
 obtain⟨q0,q1,q2,q3,q4,f0,f1,f2,f3,f4,qs⟩:=Aj HB1.out
 clear f0 f1 f2 f3 f4
 have HM1:Hid (MapAt M (w1.alloc (.map #[] 0)) w1.heap.size []):=MapAt.made M w1
 have b2:=b1.alloc b1.size (.map #[] 0)
 have HB2:Hid ((w1.alloc (.map #[] 0)).heap[w.heap.size]?=_):=(Below.heap_alloc _ _ _ qs).trans HB1.out
 have hmm:=@run_makeMap Tryz.prog
 go_wp2
 clear q0 q1 q2 q3 q4 hmm
 go_loopw [21] (fun i wr=>∃ b:Nat,b<=M.heads.length/\i=.int .i64 b/\Hid (MapAt M wr w1.heap.size (Bg M b))/\Below w.heap.size w wr/\Hid (wr.heap[w.heap.size]?=some (.cells #[.slice aS M.slots.length cS,.slice aH M.heads.length cH,.slice aF M.free.length cF,.slice aL M.locks.length cL,.int .i64 M.now] 25 (0,0)))/\Hid (Z=Uw M (M.heads.length - b) b (Bg M b)))
  (fun i _=>M.heads.length - (intOf i).toNat)
 case atStart=>exact⟨0,Nat.zero_le _,rfl,HM1,b2,HB2,HC⟩
 case round =>
  obtain⟨b,hb,rfl,HM,hbw,HB,HE⟩:=hrel
  clear HM1 HB2 b2 HC HB1 b1
  obtain⟨q0,q1,q2,q3,q4,f0,f1,f2,f3,f4,qs'⟩:=Aj HB.out
  clear f0 f1 f2 f3 f4
  have gl:=MapAt.lt HM.out
  by_cases hlt:b<M.heads.length
  ·have HAr:Hid _:=HA.out.below hbw
   go_wp2_with fail
   refine(a1t M aS aH aF aL cS cH cF cL b wr HAr.out hok hlt).mono ?_
   rintro e w2 ⟨ao,cap,rfl,hrow,hb2⟩
   have hbx:=hbw.trans (hb2.mono hbw.size)
   have HM2:Hid (MapAt M w2 w1.heap.size (Bg M b)):=MapAt.kept HM.out (hb2.block _ gl)
   have HB2:Hid (w2.heap[w.heap.size]?=_):=(hb2.block w.heap.size qs').trans HB.out
   have HS:Hid _:=a6d M b hlt
   clear HM HB HAr hbw hb2 q0 q1 q2 q3 q4
   cases hc:U3 M b
   ·have HV:Hid (Z=4):=HE.out.trans (HS.out.trans (by rw[hc];rfl))
    have es:Oh M b=4:=by unfold Oh;rw[hc];rfl
    have el:Nk M b=[]:=by unfold Nk;rw[hc];rfl
    rw[es,el]
    clear hrow HS HE
    go_wp2
    go_ret2
    exact⟨_,by rw[HV.out];rfl,⟨fun _=>rfl,fun h=>by rw[HV.out] at h;cases h⟩,hbx⟩
   ·have es:Oh M b=0:=by unfold Oh;rw[hc];rfl
    have el:Nk M b=chL M b:=by unfold Nk;rw[hc];rfl
    rw[es,el]
    rw[el] at hrow
    have HIn:Hid _:=hok.chIn hlt
    have HRow:Hid (Ea w2 ao cap (chL M b)):=hrow
    have hlen:(chL M b).length<=12:=Nat.le_trans (Q9 _ _ _) n0
    have HD:Hid (Z=if J9 M b (Bg M b) (chL M b)≠0 then J9 M b (Bg M b) (chL M b) else Uw M (M.heads.length - (b+1)) (b+1) (Bg M (b+1))):=HE.out.trans (HS.out.trans (by rw[hc];rfl))
    have HSu:Hid (Bg M (b+1)=Bg M b++chL M b):=Jb M b
    clear hrow HS HE es el hc
    generalize chL M b=l at *
    go_wp2
    go_loopw [35] (fun i wr=>∃ k:Nat,k<=l.length/\i=.int .i64 k/\Hid (MapAt M wr w1.heap.size (Bg M b++l.take k))/\Hid (Ea wr ao cap l)/\Below w.heap.size w wr/\Hid (wr.heap[w.heap.size]?=some (.cells #[.slice aS M.slots.length cS,.slice aH M.heads.length cH,.slice aF M.free.length cF,.slice aL M.locks.length cL,.int .i64 M.now] 25 (0,0)))/\Hid (J9 M b (Bg M b) l=J9 M b (Bg M b++l.take k) (l.drop k)))
     (fun i _=>l.length - (intOf i).toNat)
    case atStart=>exact⟨0,Nat.zero_le _,rfl,by rw[List.take_zero,List.append_nil];exact HM2,HRow,hbx,HB2,by rw[List.take_zero,List.append_nil,List.drop_zero];exact rfl⟩
    case round =>
     obtain⟨k,hk,rfl,HM3,HR3,hb3,HB3,HE3⟩:=hrel
     clear HM2 HRow hbx HB2
     obtain⟨q0,q1,q2,q3,q4,f0,f1,f2,f3,f4,qs3⟩:=Aj HB3.out
     clear f0 f1 f2 f3 f4
     by_cases hlt3:k<l.length
     ·rcases HR3.out.at_ with h0|⟨bl,ol,rfl,hcl⟩
      ·omega
      have d0:=hcl k hlt3
      clear hcl
      have hin:=HIn.out l[k] (List.getElem_mem hlt3)
      obtain⟨j,hj⟩:∃ j:Nat,l[k]=j:=⟨(l[k]).toNat,by omega⟩
      have HX:Hid (l[k]=j):=hj
      rw[hj] at d0 hin
      clear hj
      have hjs:j<M.slots.length:=by omega
      have HA3:Hid _:=HA.out.below hb3
      have HSt:Hid _:=a3q M b (Bg M b) l k hlt3
      go_wp2_with fail
      refine(Y6 M aS aH aF aL cS cH cF cL b j w1.heap.size (Bg M b++l.take k) wr HA3.out hok hlt hjs HM3.out).mono ?_
      rintro e w4 ⟨rfl,hb4⟩
      have hbx4:=hb3.trans (hb4.mono hb3.size)
      have HM4:Hid (MapAt M w4 w1.heap.size (Bg M b++l.take k)):=MapAt.kept HM3.out (hb4.block _ (MapAt.lt HM3.out))
      have HB4:Hid (w4.heap[w.heap.size]?=_):=(hb4.block w.heap.size qs3).trans HB3.out
      have HR4:Hid _:=HR3.out.below hb4
      have HA4:Hid _:=HA.out.below hbx4
      clear HM3 HB3 HR3 HA3 hb4 hb3 q0 q1 q2 q3 q4 d0
      by_cases hsc:Ja M b (Bg M b++l.take k) j=0
      ·rw[hsc]
       have HV:Hid (J9 M b (Bg M b) l=J9 M b (Bg M b++l.take (k+1)) (l.drop (k+1))):=HE3.out.trans (HSt.out.trans (by rw[HX.out,if_neg (by simpa using hsc)]))
       have hz:=(Qx M b _ _).1 hsc
       have hnk:hasK M (Bg M b++l.take k) (keyAt M j)=false:=by
        cases hh:hasK M (Bg M b++l.take k) (keyAt M j)
        ·rfl
        ·exact absurd ((Gq _ _ _).1 hh) hz.2
       have HNK:Hid _:=hnk
       clear hz hnk hsc HSt HE3
       obtain⟨r0,r1,r2,r3,r4,g0,g1,g2,g3,g4,rs⟩:=Aj HB4.out
       clear g0 g1 g2 g3 g4
       have hgood:=(Gf (hok.slot _ (List.getElem_mem hjs))).2.2.1
       rcases HA4.out.s.at_ with h0|⟨bs,os,rfl,hcs⟩
       ·omega
       obtain⟨c0,c1,c2,c3,c4,c5⟩:=hcs j hjs
       clear hcs c0 c3 c4 c5
       have hsl:A7 M j=M.slots[j]:=Jc hjs
       have hkk:keyAt M j=(M.slots[j].a,M.slots[j].b):=by unfold keyAt;rw[hsl]
       have HKK:Hid (keyAt M j=(M.slots[j].a,M.slots[j].b)):=hkk
       have HSL:Hid (A7 M j=M.slots[j]):=hsl
       clear hkk hsl
       obtain⟨nn,hnn,D,ho,hat⟩:=HM4.out
       have HO:Hid (w4.ownsMap Tryz.prog 30 (plainElem Tryz.prog 3) w1.heap.size nn D):=ho
       have HAT:Hid _:=hat
       obtain⟨es,clock,hgb⟩:=MapAt.blk HM4.out
       have HGB:Hid _:=hgb
       have hnn2:nn<140737488355328:=by
        have h1:=Pn M b
        have h2:b*M.slots.length<=4*12:=Nat.mul_le_mul (by omega) n0
        have h3:=hnn
        simp only[List.length_append,List.length_take] at h3
        omega
       clear ho hat hgb
       go_wp2_with (at_mapUpdate;(refine wpList_mapUpdate_own (H:=Unit) _ rfl _ _ _ 121 rfl 30 3 b1d a2a (plainElem Tryz.prog 3) w1.heap.size nn D rfl HO.out (by unfold maxLen;omega) _ _ (kl (M.slots[j].a,M.slots[j].b)) rfl rfl (Su (N7 hgood).1 (N7 hgood).2) (.lit (.int .i64 (j:Int))) [] (plainElem_int Tryz.underlying3 (wf64 (by omega) (by omega))) ?_;intro w5 ho5 hg5))
       have HM5:Hid (MapAt M w5 w1.heap.size (Bg M b++l.take (k+1))):=by
        have:=MapAt.put (a:=(j:Int)) hnn HO.out.isMap HAT.out (by rw[HSL.out];exact hgood) HNK.out (by rw[HKK.out];exact ho5)
        rw[List.take_succ_eq_append_getElem hlt3,<- List.append_assoc,HX.out]
        exact this
       have HB5:Hid (w5.heap[w.heap.size]?=some (.cells #[.slice (some ⟨bs,os,none⟩) M.slots.length cS,.slice aH M.heads.length cH,.slice aF M.free.length cF,.slice aL M.locks.length cL,.int .i64 M.now] 25 (0,0))):=(hg5.block w.heap.size rs (by simp;omega)).trans HB4.out
       have HR5:Hid (Ea w5 (some ⟨bl,ol,none⟩) cap l):=HR4.out.turn HGB.out (fun k h1 h2=>hg5.block k h1 (by simpa using h2))
       have hb5:Below w.heap.size w w5:=hbx4.grown hg5 hbx4.size (fun k h=>by cases h;omega)
       go_roundw
       case rel=>exact⟨k+1,by omega,by go_num,HM5,HR5,hb5,HB5,HV⟩
       case measure=>simp[intOf];omega
      ·have h':(Ja M b (Bg M b++l.take k) j != 0)=true:=by simpa using hsc
       have HV:Hid (Z=Ja M b (Bg M b++l.take k) j):=by
        have h1:=HE3.out.trans (HSt.out.trans (by rw[HX.out,if_pos hsc]))
        have:=HD.out
        rw[h1,if_pos hsc] at this
        exact this
       have HN:Hid (Ja M b (Bg M b++l.take k) j≠0):=hsc
       clear HSt HE3 HD hsc HB4 HR4 HA4 HM4
       generalize Ja M b (Bg M b++l.take k) j=E at *
       go_wp2
       go_ret2
       exact⟨_,by rw[HV.out];rfl,⟨fun _=>rfl,fun h=>absurd (HV.out ▸ h) HN.out⟩,hbx4⟩
     ·have hk':k=l.length:=by omega
      have HV:Hid (Z=Uw M (M.heads.length - (b+1)) (b+1) (Bg M (b+1))):=by
       have h1:=HE3.out.trans (a8j M b (Bg M b) l k (by omega))
       have:=HD.out
       rw[h1,if_neg (by simp)] at this
       exact this
      have HM6:Hid (MapAt M wr w1.heap.size (Bg M (b+1))):=by
       have:=HM3.out
       rw[hk',List.take_length,<- HSu.out] at this
       exact this
      go_wp2
      go_roundw
      case rel=>exact⟨b+1,by omega,by go_num,HM6,hb3,HB3,HV⟩
      case measure=>simp[intOf];omega
  ·have hbe:b=M.heads.length:=by omega
   have HV:Hid (Z=0):=HE.out.trans (b0c M b (by omega) _)
   have HMf:Hid (MapAt M wr w1.heap.size (Ba M)):=by
    have:=HM.out
    rw[hbe] at this
    exact this
   go_wp2
   go_ret2
   exact⟨_,by rw[HV.out];rfl,⟨fun h=>absurd HV.out h,fun _=>⟨w1.heap.size,rfl,by omega,HMf.out⟩⟩,hbw⟩
end
section
open Go.ChangeShapes Go.WideShapes Go.ChangeAt Go.RowKit Go.Joins Go.Maps
set_option maxHeartbeats 800000 in
theorem Vq(M:Mm)(aS aH aF aL:Option Addr)(cS cH cF cL:Nat)(w:World)(A:At w aS aH aF aL cS cH cF cL M) :
  Calls Tryz.prog 29 #[.agg #[Y aS M.slots.length cS,Y aH M.heads.length cH,Y aF M.free.length cF,Y aL M.locks.length cL,O J M.now]] w fun e w'=>e=.returned (O J (O4 M))/\Below w.heap.size w w':=by
 have b0:Below w.heap.size w (w.alloc (.cells #[Y aS M.slots.length cS,Y aH M.heads.length cH,Y aF M.free.length cF,Y aL M.locks.length cL,O J M.now] 25)):=Ad w _
 have HA0:Hid _:=A.below b0
 clear A
 go_enter Tryz.func29,Tryz.ntmps29
 go_wp2_with fail
 refine(a3k M aS aH aF aL cS cH cF cL _ HA0.out).mono ?_
 rintro e w1 ⟨v,rfl,-,hb1⟩
 have b1:=b0.trans (hb1.mono b0.size)
 clear hb1 b0 HA0
 go_wp2
 go_ret
 exact⟨rfl,b1⟩
end
end Go.Proofs.YthhgoenomehobaaGreat.mm
