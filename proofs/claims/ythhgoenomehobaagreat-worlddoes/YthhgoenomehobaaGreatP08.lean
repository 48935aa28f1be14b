/- Parts. -/
import Derived.Test.YthhgoenomehobaaGreatP02
import Derived.Test.YthhgoenomehobaaGreatP07
import Derived.DeepKeys4
import Derived.OrdersHeld
namespace Go.Proofs.YthhgoenomehobaaGreat.mm
set_option maxRecDepth 100000
set_option linter.unusedVariables false
open Go.Proofs.Tryz renaming prog → Pg
open Go renaming World → Wq
section
def toF(f:Fr)(n:Int):Fr:={ f with pl:=n }
def Rt(f:Fr)(c n:Int):Fr:={ f with cur:=c,pl:=n }
def Fp(f:Fr)(s n:Int):Fr:={ f with slot:=s,pl:=n }
def Ej(M:Mm)(f:Fr):Bool:=inB f.cur 1 M.slots.length
def lkK(s:Sl)(f:Fr):Bool:=s.a==f.c.a && s.b==f.c.b
def Em(M:Mm)(a:Int):Mm:=if Dy M a=0 then M else Ub M a
def Qk(M:Mm)(a:Int):Bool:=decide (0<Dy M a) && decide (Dy M a<1000)
def holdN(M:Mm)(a:Int):Mm:=if Qk M a then a7s M a else M
def Qy(M:Mm)(f:Fr):Fr:=Rt f (Bf M (Ey M.heads.length f.c).toNat) 1
def U0(M:Mm)(f:Fr):Fr :=
 if f.cur=-1 - Ey M.heads.length f.c then Ag f 5
 else if Ej M f then toF f (if lkK (Aa M (f.cur - 1)) f then 3 else 2) else toF f 0
def Lr(M:Mm)(f:Fr):Fr:=if Ej M f then Rt f (Aa M (f.cur - 1)).next 1 else toF f 0
def Ll(M:Mm)(f:Fr):Fr:=if Ej M f && Qk M (f.cur - 1) then Fp f (f.cur - 1) 4 else toF f 0
def Lm(M:Mm)(f:Fr):Mm:=if Ej M f then holdN M (f.cur - 1) else M
def Jv(M:Mm)(f:Fr):Fr :=
 if Dc M f.slot then
  (if lkK (Aa M f.slot) f && (Aa M f.slot).inn then (if M.now<(Aa M f.slot).unt then Ag f 0 else toF f 6) else toF f 5)
 else toF f 0
def Ee(M:Mm)(f:Fr):Mm:=if Dc M f.slot then Em M f.slot else M
def J4(M:Mm)(f:Fr):Fr:=if Dc M f.slot then Fp f (-1) 0 else toF f 0
def Lp(M:Mm)(f:Fr):Fr:=if Dc M f.slot then Ag { f with slot:=-1 } 5 else toF f 0
def lkF(M:Mm)(f:Fr):Fr :=
 if f.pl=0 then Qy M f else if f.pl=1 then U0 M f else if f.pl=2 then Lr M f else if f.pl=3 then Ll M f
 else if f.pl=4 then Jv M f else if f.pl=5 then J4 M f else if f.pl=6 then Lp M f else toF f 0
def lkM(M:Mm)(f:Fr):Mm :=
 if f.pl=3 then Lm M f else if f.pl=5 then Ee M f else if f.pl=6 then Ee M f else M
structure Fit(M:Mm)(f:Fr):Prop where
 call:D5 M.slots.length M.heads.length f.c=0
 pl:0<=f.pl/\f.pl<=9
 n:inB f.n 0 1000000=true
 done:f.done=false
 cur:-(M.heads.length:Int)<=f.cur/\f.cur<=M.slots.length
 prev:0<=f.prev/\f.prev<=M.slots.length
 slot:-1<=f.slot/\f.slot<M.slots.length
 keys:f.keys.length<=100
theorem a3b{M:Mm}{f:Fr}:frE M.slots.length M.heads.length f=0 ↔ Fit M f:=by
 constructor
 ·intro h
  unfold frE at h
  by_cases h1:D5 M.slots.length M.heads.length f.c=0
  ·rw[if_neg (by simpa using h1)] at h
   by_cases h2:inB f.pl 0 9=false\/inB f.n 0 1000000=false\/f.done=true
   ·rw[if_pos h2] at h;omega
   ·rw[if_neg h2] at h
    by_cases h3:inB f.cur (-(M.heads.length:Int)) M.slots.length=false\/inB f.prev 0 M.slots.length=false\/inB f.slot (-1) ((M.slots.length:Int) - 1)=false
    ·rw[if_pos h3] at h;omega
    ·rw[if_neg h3] at h
     by_cases h4:100<f.keys.length
     ·rw[if_pos h4] at h;omega
     ·simp only[not_or,Bool.not_eq_false,Bool.not_eq_true,Aj] at h2 h3
      exact⟨h1,h2.1,(Aj _ _ _).2 h2.2.1,h2.2.2,h3.1,h3.2.1,⟨h3.2.2.1,by have:=h3.2.2.2;omega⟩,by omega⟩
  ·rw[if_pos h1] at h;exact absurd h h1
 ·rintro ⟨h1,h2,h3,h4,h5,h6,h7,h8⟩
  unfold frE
  rw[if_neg (by simpa using h1),if_neg,if_neg,if_neg (by omega)]
  ·simp only[not_or,Bool.not_eq_false,Aj]
   exact⟨h5,h6,h7.1,by omega⟩
  ·simp only[not_or,Bool.not_eq_false,Bool.not_eq_true]
   exact⟨(Aj _ _ _).2 h2,h3,h4⟩
theorem He{M:Mm}{c:Cl}(hM:Ok M)(h:D5 M.slots.length M.heads.length c=0):0<=Ey M.heads.length c/\Ey M.heads.length c<M.heads.length:=by
 obtain⟨n1,n2⟩:=hM.nh
 by_cases hb:c.kind=4\/c.kind=5
 ·unfold D5 at h
  rw[if_neg (by omega),if_neg (by omega),if_pos hb] at h
  cases hi:inB c.bk 0 ((M.heads.length:Int) - 1)
  ·rw[hi] at h;simp at h
  ·rw[Aj] at hi
   unfold Ey
   rw[if_pos hb]
   omega
 ·unfold Ey
  rw[if_neg hb]
  by_cases hk:E5 c.a c.b=true
  ·rw[if_pos hk,if_pos ⟨n1,n2⟩]
   exact a3x c.a c.b n1
  ·rw[if_neg hk]
   omega
theorem Es{M:Mm}{f:Fr}:Ej M f=true ↔ 1<=f.cur/\f.cur<=M.slots.length:=by unfold Ej;rw[Aj]
theorem Eg{M:Mm}{i:Int}:Dc M i=true ↔ 0<=i/\i<M.slots.length:=by
 unfold Dc
 rw[Aj]
 omega
theorem a2f{M:Mm}{i:Int}(h:Dc M i=true):Aa M i∈M.slots:=by
 obtain⟨j,rfl,hj⟩:=(Zc M i).1 h
 unfold Aa
 rw[Int.toNat_natCast,getD_lt _ _ hj]
 exact List.getElem_mem hj
theorem Ou{M:Mm}(hM:Ok M){i:Int}(h:Dc M i=true):0<=Dy M i/\Dy M i<=1000:=by
 have:=(Ii (hM.slot _ (a2f h))).1
 rw[Aj] at this
 exact this
theorem Ql{M:Mm}{a:Int}:Qk M a=true ↔ 0<Dy M a/\Dy M a<1000:=by simp[Qk]
theorem lkF_c(M:Mm)(f:Fr):(lkF M f).c=f.c:=by
 unfold lkF Qy U0 Lr Ll Jv J4 Lp
 repeat' split
 all_goals rfl
theorem a8d(M:Mm)(f:Fr):(lkF M f).keys=f.keys:=by
 unfold lkF Qy U0 Lr Ll Jv J4 Lp
 repeat' split
 all_goals rfl
theorem Fit.to{M:Mm}{f:Fr}(h:Fit M f){n:Int}(h1:0<=n/\n<=9):Fit M (toF f n):=⟨h.call,h1,h.n,h.done,h.cur,h.prev,h.slot,h.keys⟩
end
section
def Ce(M:Mm)(b:Nat):Int:=M.locks.getD b 0
def Zh(M:Mm)(b:Nat)(t:Int):Mm:={ M with locks:=M.locks.set b t }
def Qx(M:Mm)(a:Int)(b:Nat):Mm:={ M with slots:=M.slots.set a.toNat { Aa M a with next:=Bf M b,inn:=true },heads:=M.heads.set b (a+1) }
def bkN(M:Mm)(f:Fr):Nat:=(Ey M.heads.length f.c).toNat
def a6j(M:Mm)(f:Fr):Int:=if 2000000<M.now+f.c.time then 2000000 else M.now+f.c.time
def Cc(f:Fr):Fr:={ f with e:=8,pl:=7 }
def Jf(M:Mm)(f:Fr):Fr:=if M.free.length=0 then Ag f 7 else Fp f (G8 M) 1
def Iy(M:Mm)(f:Fr):Mm:=if M.free.length=0 then M else Oa M f.c.a f.c.b (a6j M f)
def P8(M:Mm)(f:Fr):Fr:=if Ce M (bkN M f)=-1 then toF f 2 else f
def Eu(M:Mm)(f:Fr)(t:Int):Mm:=if Ce M (bkN M f)=-1 then Zh M (bkN M f) t else M
def Ti(M:Mm)(f:Fr):Fr:=if Ej M f then toF f (if lkK (Aa M (f.cur - 1)) f then 6 else 4) else toF f 5
def Nq(M:Mm)(f:Fr):Fr:=if Ej M f then Rt f (Aa M (f.cur - 1)).next 3 else Cc f
def Ko(M:Mm)(f:Fr):Fr:=if Dc M f.slot then { f with e:=0,pl:=7 } else Cc f
def Jp(M:Mm)(f:Fr):Mm:=if Dc M f.slot then Qx M f.slot (bkN M f) else M
def Tf(M:Mm)(f:Fr):Fr:=if Dc M f.slot then { f with slot:=-1,e:=6,pl:=7 } else Cc f
def a0m(M:Mm)(f:Fr):Mm:=if Dc M f.slot then Em M f.slot else M
def Ew(M:Mm)(f:Fr)(t:Int):Mm:=if Ce M (bkN M f)=t then Zh M (bkN M f) (-1) else M
def adF(M:Mm)(f:Fr):Fr :=
 if f.pl=0 then Jf M f else if f.pl=1 then P8 M f else if f.pl=2 then Rt f (Bf M (bkN M f)) 3 else if f.pl=3 then Ti M f
 else if f.pl=4 then Nq M f else if f.pl=5 then Ko M f else if f.pl=6 then Tf M f else if f.pl=7 then Ag f f.e else Cc f
def adM(t:Int)(M:Mm)(f:Fr):Mm :=
 if f.pl=0 then Iy M f else if f.pl=1 then Eu M f t else if f.pl=5 then Jp M f else if f.pl=6 then a0m M f else if f.pl=7 then Ew M f t else M
theorem adF0{M:Mm}{f:Fr}(h:f.pl=0):adF M f=Jf M f:=by unfold adF;rw[if_pos h]
theorem adF1{M:Mm}{f:Fr}(h:f.pl=1):adF M f=P8 M f:=by unfold adF;rw[if_neg (by omega),if_pos h]
theorem adF2{M:Mm}{f:Fr}(h:f.pl=2):adF M f=Rt f (Bf M (bkN M f)) 3:=by unfold adF;rw[if_neg (by omega),if_neg (by omega),if_pos h]
theorem adF3{M:Mm}{f:Fr}(h:f.pl=3):adF M f=Ti M f:=by unfold adF;rw[if_neg (by omega),if_neg (by omega),if_neg (by omega),if_pos h]
theorem adF4{M:Mm}{f:Fr}(h:f.pl=4):adF M f=Nq M f:=by unfold adF;rw[if_neg (by omega),if_neg (by omega),if_neg (by omega),if_neg (by omega),if_pos h]
theorem adF5{M:Mm}{f:Fr}(h:f.pl=5):adF M f=Ko M f:=by unfold adF;rw[if_neg (by omega),if_neg (by omega),if_neg (by omega),if_neg (by omega),if_neg (by omega),if_pos h]
theorem adF6{M:Mm}{f:Fr}(h:f.pl=6):adF M f=Tf M f:=by unfold adF;rw[if_neg (by omega),if_neg (by omega),if_neg (by omega),if_neg (by omega),if_neg (by omega),if_neg (by omega),if_pos h]
theorem adF7{M:Mm}{f:Fr}(h:f.pl=7):adF M f=Ag f f.e:=by unfold adF;rw[if_neg (by omega),if_neg (by omega),if_neg (by omega),if_neg (by omega),if_neg (by omega),if_neg (by omega),if_neg (by omega),if_pos h]
theorem adF8{M:Mm}{f:Fr}(h:8<=f.pl):adF M f=Cc f:=by unfold adF;rw[if_neg (by omega),if_neg (by omega),if_neg (by omega),if_neg (by omega),if_neg (by omega),if_neg (by omega),if_neg (by omega),if_neg (by omega)]
theorem adM0{M:Mm}{f:Fr}{t:Int}(h:f.pl=0):adM t M f=Iy M f:=by unfold adM;rw[if_pos h]
theorem adM1{M:Mm}{f:Fr}{t:Int}(h:f.pl=1):adM t M f=Eu M f t:=by unfold adM;rw[if_neg (by omega),if_pos h]
theorem adM5{M:Mm}{f:Fr}{t:Int}(h:f.pl=5):adM t M f=Jp M f:=by unfold adM;rw[if_neg (by omega),if_neg (by omega),if_pos h]
theorem adM6{M:Mm}{f:Fr}{t:Int}(h:f.pl=6):adM t M f=a0m M f:=by unfold adM;rw[if_neg (by omega),if_neg (by omega),if_neg (by omega),if_pos h]
theorem adM7{M:Mm}{f:Fr}{t:Int}(h:f.pl=7):adM t M f=Ew M f t:=by unfold adM;rw[if_neg (by omega),if_neg (by omega),if_neg (by omega),if_neg (by omega),if_pos h]
theorem Il{M:Mm}{f:Fr}{t:Int}(h:f.pl≠0/\f.pl≠1/\f.pl≠5/\f.pl≠6/\f.pl≠7):adM t M f=M:=by unfold adM;rw[if_neg h.1,if_neg h.2.1,if_neg h.2.2.1,if_neg h.2.2.2.1,if_neg h.2.2.2.2]
theorem adF_c(M:Mm)(f:Fr):(adF M f).c=f.c:=by
 unfold adF Jf P8 Ti Nq Ko Tf
 repeat' split
 all_goals rfl
theorem a6r(M:Mm)(f:Fr):(adF M f).keys=f.keys:=by
 unfold adF Jf P8 Ti Nq Ko Tf
 repeat' split
 all_goals rfl
theorem Uf{nS nH:Nat}{c:Cl}(hk:c.kind=2)(h:D5 nS nH c=0):E5 c.a c.b=true/\1<=c.time/\c.time<=1000000:=by
 obtain⟨k,a,b,t,bk,sl⟩:=c
 have hk':k=2:=hk
 subst hk'
 rw[Rn] at h
 cases hb:inB t 1 1000000 && E5 a b
 ·rw[hb] at h;simp at h
 ·simp only[Bool.and_eq_true,Aj] at hb
  exact⟨hb.2,hb.1⟩
end
section
open Go.ChangeShapes Go.WideShapes Go.ChangeAt Go.RowKit Go.Maps
theorem X7(a b:Int)(n:Nat)(w:Wq)(hk:E5 a b=true)(n0:1<=n)(n1:n<=4) :
  Calls Pg 49 #[.agg #[.int .i64 a,.int .i64 b],.int .i64 n] w fun e w'=>e=.returned (.tuple #[.int .i64 (Eo a b n),.int .i64 0])/\Below w.heap.size w w':=by
 obtain⟨⟨h0,h1⟩,h2,h3⟩:=(Jh a b).1 hk
 have hab0:0<=a*b:=Int.mul_nonneg h0 h2
 have hab1:a*b<=15*15:=Int.mul_le_mul h1 h3 h2 (by omega)
 have e1:wrap64 (a*b)=a*b:=by unfold wrap64;omega
 have e2:wrap64 (7*a+3*b+a*b)=7*a+3*b+a*b:=by unfold wrap64;omega
 have e3:(7*a+3*b+a*b).tmod n=(7*a+3*b+a*b) % n:=Int.tmod_eq_emod_of_nonneg (by omega)
 have H1:Hid ((wrap64 (7*a+3*b+wrap64 (a*b))).tmod n=Eo a b n):=by rw[e1,e2,e3];trivial
 clear e1 e2 e3 hab0 hab1
 have HK:Hid (E5 a b=true):=hk
 clear hk
 go_enter Tryz.func49,Tryz.ntmps49
 go_wp2_with fail
 refine(O0 _ _ _ HK.out).mono ?_
 rintro e w1 ⟨rfl,hb1⟩
 have c0:w1.cell? ⟨w.heap.size,0,none⟩=some (.int .i64 a):=(hb1.cell (p:=⟨w.heap.size,0,none⟩) (by simp)).trans (by simp)
 have c1:w1.cell? ⟨w.heap.size,1,none⟩=some (.int .i64 b):=(hb1.cell (p:=⟨w.heap.size,1,none⟩) (by simp)).trans (by simp)
 go_wp2
 go_ret2
 refine⟨?_,((Below.refl _ _).alloc (Nat.le_refl _) _).trans (hb1.mono (by simp))⟩
 show Ending.returned (.tuple #[.int .i64 ((wrap64 (7*a+3*b+wrap64 (a*b))).tmod n),.int .i64 0])=_
 rw[H1.out]
theorem a0p(a b:Int)(n:Int)(w:Wq)(h:E5 a b=false) :
  Calls Pg 49 #[.agg #[.int .i64 a,.int .i64 b],.int .i64 n] w fun e w'=>e=.returned (.tuple #[.int .i64 0,.int .i64 3])/\Below w.heap.size w w':=by
 go_enter Tryz.func49,Tryz.ntmps49
 go_wp2_with (first|(go_at_call 96;refine(Ve _ _ _ h).mono ?_;rintro e w1 ⟨rfl,hb1⟩))
 go_ret2
 exact⟨rfl,((Below.refl _ _).alloc (Nat.le_refl _) _).trans (hb1.mono (by simp))⟩
theorem Y1(a b:Int)(n:Nat)(w:Wq)(hk:E5 a b=true)(n0:1<=n)(n1:n<=4) :
  Calls Pg 134 #[.agg #[.int .i64 a,.int .i64 b],.int .i64 n] w fun e w'=>e=.returned (.int .i64 (Eo a b n))/\Below w.heap.size w w':=by
 obtain⟨⟨h0,h1⟩,h2,h3⟩:=(Jh a b).1 hk
 clear hk
 have hm:(a+3)*(b+7)=a*b+7*a+3*b+21:=by rw[Int.add_mul,Int.mul_add,Int.mul_add];omega
 have hab0:0<=a*b:=Int.mul_nonneg h0 h2
 have hab1:a*b<=15*15:=Int.mul_le_mul h1 h3 h2 (by omega)
 have e1:wrap64 ((a+3)*(b+7))=a*b+7*a+3*b+21:=by rw[hm];unfold wrap64;omega
 have e2:wrap64 (a*b+7*a+3*b+21 - 21)=7*a+3*b+a*b:=by unfold wrap64;omega
 have e3:(7*a+3*b+a*b).tmod n=(7*a+3*b+a*b) % n:=Int.tmod_eq_emod_of_nonneg (by omega)
 have H1:Hid (wrap64 (wrap64 ((a+3)*(b+7)) - 21)=7*a+3*b+a*b):=by rw[e1];exact e2
 have H3:Hid ((7*a+3*b+a*b).tmod n=Eo a b n):=e3
 clear hm hab0 hab1 e1 e2 e3
 go_enter Tryz.func134,Tryz.ntmps134
 go_wp2
 go_ret
 refine⟨?_,A7 _ _⟩
 show Ending.returned (.int .i64 ((wrap64 (wrap64 ((a+3)*(b+7)) - 21)).tmod n))=_
 rw[H1.out,H3.out]
theorem laid:laidOutB Pg=true:=by kernel_rfl
theorem b2y:(30:TypeId)<Pg.types.size:=of_decide_eq_true (by kernel_rfl)
theorem b4h:(match Pg.underlying 30 with|some (.array _ _)|some (.struct _)=>true|_=>false)=true:=by rw[Tryz.underlying30]
theorem a7z:Keyed Pg 30:=Keyed.of_law (deep_law_laid laid (m:=3) (by omega) b2y (by kernel_rfl) b4h)
theorem a0f:Pg.underlying 121=some (.map 30 3):=by kernel_rfl
theorem zero3(w:Wq):(zeroValue 3).run Pg w=.ok (.int .i64 0) w:=by kernel_rfl
theorem a4t:Pg.keyType 30=true:=by kernel_rfl
theorem Zd:Pg.cellsOf 30=2:=by kernel_rfl
theorem b1e:Pg.cellsOf 3=1:=by kernel_rfl
theorem ksize:∃ m,Pg.types.size=m+1:=by
 have h:0<Pg.types.size:=Nat.lt_of_le_of_lt (Nat.zero_le _) (show 30<Pg.types.size from b2y)
 exact⟨Pg.types.size - 1,by omega⟩
def kl(k:Int × Int):Lit:=.string (keyBytes [.int .i64 k.1,.int .i64 k.2])
theorem Qw{a b:Int}(wa:(Lit.int .i64 a).wf=true)(wb:(Lit.int .i64 b).wf=true):keyOf Pg 30 (.agg #[.int .i64 a,.int .i64 b])=some (kl (a,b)):=by
 obtain⟨m,hm⟩:=ksize
 unfold keyOf
 simp only[Tryz.underlying30]
 rw[if_pos (by simp[a4t,Value.formed,Tryz.underlying30,Zd]),hm]
 unfold Program.keyLits
 simp only[Tryz.underlying30,Value.cells]
 rw[if_pos (by rw[Zd];exact⟨rfl,by kernel_rfl⟩)]
 simp[b1e,Program.keyLits,Tryz.underlying3,wa,wb,kl]
theorem Ju{a b:Int}(h:E5 a b=true):(Lit.int .i64 a).wf=true/\(Lit.int .i64 b).wf=true:=by
 obtain⟨⟨h0,h1⟩,h2,h3⟩:=(Jh a b).1 h
 exact⟨wf64 (by omega) (by omega),wf64 (by omega) (by omega)⟩
theorem b3m{k k':Int × Int}(h:E5 k.1 k.2=true)(h':E5 k'.1 k'.2=true)(e:kl k=kl k'):k=k':=by
 have h1:=Qw (Ju h).1 (Ju h).2
 have h2:=Qw (Ju h').1 (Ju h').2
 have:(k.1,k.2)=k:=rfl
 rw[this] at h1
 have:(k'.1,k'.2)=k':=rfl
 rw[this,<- e] at h2
 have:=a7z.inj h1 h2
 simp at this
 exact Prod.ext this.1 this.2
def MapAt(M:Mm)(w:Wq)(g:Nat)(all:List Int):Prop :=
 ∃ n,n<=all.length/\∃ D:DataW Unit,w.ownsMap Pg 30 (plainElem Pg 3) g n D/\∀ k:Int × Int,E5 k.1 k.2=true->D.atKey (kl k) (.lit (.int .i64 0))=.lit (.int .i64 (a2r M all k))/\Maps.has D (kl k)=hasK M all k
theorem MapAt.made(M:Mm)(w:Wq):MapAt M (w.alloc (.map #[] 0)) w.heap.size [] :=
 ⟨0,Nat.le_refl _,_,World.ownsMap_made w Pg 30 _,fun k hk=>⟨by simp[a2r,DataW.atKey],by simp[hasK,Maps.has]⟩⟩
theorem MapAt.kept{M:Mm}{w w':Wq}{g:Nat}{l:List Int}(h:MapAt M w g l)(hb:w'.heap[g]?=w.heap[g]?):MapAt M w' g l:=by
 obtain⟨n,hn,D,⟨es,clock,hg,F,hs,hD⟩,hat⟩:=h
 exact⟨n,hn,D,⟨es,clock,hb.trans hg,F,hs,hD⟩,hat⟩
theorem MapAt.lt{M:Mm}{w:Wq}{g:Nat}{l:List Int}(h:MapAt M w g l):g<w.heap.size:=by
 obtain⟨n,hn,D,⟨es,clock,hg,F,hs,hD⟩,hat⟩:=h
 exact lt_of_block hg
theorem MapAt.look{M:Mm}{w:Wq}{g:Nat}{l:List Int}(h:MapAt M w g l){a b:Int}(hk:E5 a b=true):(Instr.lookup 121 (.map (some g)) (.agg #[.int .i64 a,.int .i64 b]) true).run Pg w=.ok (.tuple #[.int .i64 (a2r M l (a,b)),.bool (hasK M l (a,b))]) w:=by
 obtain⟨n,hn,D,ho,hat⟩:=h
 have hw0:(Lit.int .i64 0).wf=true:=by decide
 obtain⟨v,ps,hrun,hv⟩:=ho.look_ok a7z a0f (zero3 w) (plainElem_int Tryz.underlying3 hw0) (Qw (Ju hk).1 (Ju hk).2)
 rw[(hat (a,b) hk).1] at hv
 obtain⟨c,rfl,hc,hwc⟩:=_root_.Go.plainElem_int_inv Tryz.underlying3 hv
 rw[hrun,(hat (a,b) hk).2]
 injection hc with h1 h2
 injection h1 with h1
 injection h1 with _ h1
 rw[h1]
theorem a6l{M:Mm}{l:List Int}{a:Int}{k:Int × Int}(h:hasK M l (keyAt M a)=false):a2r M (l ++ [a]) k=if k=keyAt M a then a else a2r M l k:=by
 unfold a2r
 rw[List.find?_append]
 by_cases e:k=keyAt M a
 ·subst e
  rw[if_pos rfl]
  have:l.find? (fun x=>keyAt M x==keyAt M a)=none:=by
   rw[List.find?_eq_none]
   intro x hx hh
   rw[beq_iff_eq] at hh
   have:=(Nz M l (keyAt M a)).2 (by rw[<- hh];exact List.mem_map_of_mem hx)
   rw[h] at this
   cases this
  rw[this]
  simp
 ·rw[if_neg e]
  have:[a].find? (fun x=>keyAt M x==k)=none:=by
   simp only[List.find?_cons,List.find?_nil]
   rw[show (keyAt M a==k)=false by simpa using fun hh=>e (Eq.symm hh)]
  rw[this]
  simp
theorem a4o(M:Mm)(l:List Int)(a:Int)(k:Int × Int):hasK M (l ++ [a]) k=(hasK M l k || decide (k=keyAt M a)):=by
 rw[Bool.eq_iff_iff,Nz,List.map_append,List.mem_append,Bool.or_eq_true,Nz]
 simp
theorem MapAt.put{M:Mm}{w':Wq}{g n:Nat}{l:List Int}{D:DataW Unit}{a:Int}(hn:n<=l.length)(ht:IsMap D)(hat:∀ k:Int × Int,E5 k.1 k.2=true->D.atKey (kl k) (.lit (.int .i64 0))=.lit (.int .i64 (a2r M l k))/\Maps.has D (kl k)=hasK M l k)
  (hk:E5 (Aa M a).a (Aa M a).b=true) (h0:hasK M l (keyAt M a)=false)
  (h:w'.ownsMap Pg 30 (plainElem Pg 3) g (n+1) (D.put (kl (keyAt M a)) (.lit (.int .i64 a)))):MapAt M w' g (l ++ [a]):=by
 refine⟨n+1,by simp;omega,_,h,fun k hk'=>?_⟩
 have hkl:WideAt.IsKeyLit (kl (keyAt M a)):=by simp[kl,WideAt.IsKeyLit]
 rw[a6l h0,a4o]
 by_cases e:k=keyAt M a
 ·subst e
  rw[atKey_put_same ht hkl,has_put_same ht hkl]
  simp
 ·have hne:kl k≠kl (keyAt M a):=fun hh=>e (b3m hk' hk hh)
  rw[atKey_put_other hne,has_put_other hne,(hat k hk').1,(hat k hk').2]
  simp[e]
end
section
open Go
theorem Z7{l:List Nat}{p q:Nat->Bool}(hq:∀ j,q j=true->p j=true):(l.filter q).length<=(l.filter p).length:=by
 induction l with
 | nil=>simp
 | cons x l ih =>
  simp only[List.filter_cons]
  by_cases h:q x=true
  ·rw[if_pos h,if_pos (hq x h)]
   simp only[List.length_cons]
   omega
  ·rw[if_neg h]
   split
   ·simp only[List.length_cons];omega
   ·exact ih
theorem filter_lt{l:List Nat}{p q:Nat->Bool}{i:Nat}(hi:i∈l)(hp:p i=true)(hqi:q i=false)(hq:∀ j,q j=true->p j=true):(l.filter q).length<(l.filter p).length:=by
 induction l with
 | nil=>cases hi
 | cons x l ih =>
  simp only[List.filter_cons]
  by_cases e:x=i
  ·subst e
   rw[if_pos hp,if_neg (by rw[hqi];simp)]
   have:=Z7 (l:=l) hq
   simp only[List.length_cons]
   omega
  ·have hm:i∈l:=by
    rcases List.mem_cons.1 hi with h|h
    ·exact absurd h.symm e
    ·exact h
   have:=ih hm
   by_cases h:q x=true
   ·rw[if_pos h,if_pos (hq x h)]
    simp only[List.length_cons]
    omega
   ·rw[if_neg h]
    split
    ·simp only[List.length_cons];omega
    ·exact this
def unl(ops:Array Oper)(listed:Array Bool):Nat:=((List.range ops.size).filter fun i=>!listed.getD i true).length
theorem Fa{md:Region.Mode}{ops:Array Oper}{listed:Array Bool}{i:Nat}(h:i∈Region.ready md ops listed) :
  i<ops.size/\listed.getD i true=false/\∃ o,ops[i]?=some o/\∀ e∈o.after,Region.binds md e=true->listed.getD e.on false=true:=by
 unfold Region.ready at h
 rw[List.mem_filter] at h
 obtain⟨h1,h2⟩:=h
 rw[Bool.and_eq_true] at h2
 refine⟨by simpa using h1,by simpa using h2.1,?_⟩
 cases ho:ops[i]? with
 | none=>rw[ho] at h2;simp at h2
 | some o =>
  rw[ho] at h2
  refine⟨o,rfl,fun e he hb=>?_⟩
  have h3:=h2.2
  simp only[Option.map_some,Option.getD_some] at h3
  rw[Array.all_eq_true'] at h3
  have:=h3 e he
  rw[hb] at this
  simpa using this
theorem Xx{P:Program}{md:Region.Mode}{ops:Array Oper}{Q:Exit->Act->Wq->Prop}(Jq:Array Bool->Act->Wq->Prop)
  (step:∀ listed a w i,i∈Region.ready md ops listed->Jq listed a w->wpOp P ops Q i (fun a' w'=>Jq (listed.setIfInBounds i true) a' w') a w)
  (fin:∀ listed a w,Region.ready md ops listed=[]->Jq listed a w->Q .normal a w) :
  ∀ (fuel:Nat) (listed:Array Bool) (a:Act) (w:Wq),unl ops listed<=fuel->listed.size=ops.size->Jq listed a w->wpAny P md ops Q fuel listed a w
 | 0,listed,a,w,hf,hs,hJ=>by
  have hr:Region.ready md ops listed=[]:=by
   cases hr:Region.ready md ops listed with
   | nil=>rfl
   | cons i r =>
    have hi:i∈Region.ready md ops listed:=by rw[hr];simp
    obtain⟨h1,h2,_⟩:=Fa hi
    have:i∈(List.range ops.size).filter fun i=>!listed.getD i true:=by
     rw[List.mem_filter]
     exact⟨by simpa using h1,by rw[h2];rfl⟩
    unfold unl at hf
    have hz:((List.range ops.size).filter fun i=>!listed.getD i true)=[]:=List.eq_nil_of_length_eq_zero (by omega)
    rw[hz] at this
    cases this
  exact⟨hr,fin listed a w hr hJ⟩
 | fuel+1,listed,a,w,hf,hs,hJ=>by
  refine⟨fun hr=>fin listed a w hr hJ,fun i hi=>?_⟩
  obtain⟨h1,h2,_⟩:=Fa hi
  refine wpOp_mono (fun a' w' hJ'=>?_) (step listed a w i hi hJ)
  refine Xx Jq step fin fuel _ a' w' ?_ (by simpa using hs) hJ'
  have hlt:unl ops (listed.setIfInBounds i true)<unl ops listed:=by
   unfold unl
   refine filter_lt (i:=i) (by simpa using h1) (by rw[h2];rfl) ?_ ?_
   ·simp[Array.getD_eq_getD_getElem?,hs,h1]
   ·intro j hj
    by_cases e:i=j
    ·subst e
     rw[h2];rfl
    ·simpa [Array.getD_eq_getD_getElem?,Array.getElem?_setIfInBounds,e] using hj
  omega
theorem Gu{P:Program}{ops:Array Oper}{Q:Exit->Act->Wq->Prop}{id:Nat}{a:Act}{w:Wq}(hm:P.follows .mixedOrders=true)(Jq:Array Bool->Act->Wq->Prop)
  (start:Jq (Array.replicate ops.size false) a { w with drawn:=w.drawn+1 })
  (step:∀ listed a w i,i∈Region.ready .any ops listed->Jq listed a w->wpOp P ops Q i (fun a' w'=>Jq (listed.setIfInBounds i true) a' w') a w)
  (fin:∀ listed a w,Region.ready .any ops listed=[]->Jq listed a w->Q .normal a w):(Code.region id ops true).wp P Q a w:=by
 refine wp_region_any hm (Xx Jq step fin _ _ a _ ?_ (by simp) start)
 unfold unl
 exact Nat.le_trans (List.length_filter_le _ _) (by simp)
end
section
theorem En{G:Prop}(a:Go.Act)(R:Go.Act->Prop)(h:R a->G)(t:R a):G:=h t
end
section
theorem lkF0{M:Mm}{f:Fr}(h:f.pl=0):lkF M f=Qy M f:=by unfold lkF;rw[if_pos h]
theorem lkF1{M:Mm}{f:Fr}(h:f.pl=1):lkF M f=U0 M f:=by unfold lkF;rw[if_neg (by omega),if_pos h]
theorem lkF2{M:Mm}{f:Fr}(h:f.pl=2):lkF M f=Lr M f:=by unfold lkF;rw[if_neg (by omega),if_neg (by omega),if_pos h]
theorem lkF3{M:Mm}{f:Fr}(h:f.pl=3):lkF M f=Ll M f:=by unfold lkF;rw[if_neg (by omega),if_neg (by omega),if_neg (by omega),if_pos h]
theorem lkF4{M:Mm}{f:Fr}(h:f.pl=4):lkF M f=Jv M f:=by unfold lkF;rw[if_neg (by omega),if_neg (by omega),if_neg (by omega),if_neg (by omega),if_pos h]
theorem lkF5{M:Mm}{f:Fr}(h:f.pl=5):lkF M f=J4 M f:=by unfold lkF;rw[if_neg (by omega),if_neg (by omega),if_neg (by omega),if_neg (by omega),if_neg (by omega),if_pos h]
theorem lkF6{M:Mm}{f:Fr}(h:f.pl=6):lkF M f=Lp M f:=by unfold lkF;rw[if_neg (by omega),if_neg (by omega),if_neg (by omega),if_neg (by omega),if_neg (by omega),if_neg (by omega),if_pos h]
theorem lkF7{M:Mm}{f:Fr}(h:7<=f.pl):lkF M f=toF f 0:=by unfold lkF;rw[if_neg (by omega),if_neg (by omega),if_neg (by omega),if_neg (by omega),if_neg (by omega),if_neg (by omega),if_neg (by omega)]
theorem O5{M:Mm}{f:Fr}(h:f.pl≠3/\f.pl≠5/\f.pl≠6):lkM M f=M:=by unfold lkM;rw[if_neg h.1,if_neg h.2.1,if_neg h.2.2]
theorem lkM3{M:Mm}{f:Fr}(h:f.pl=3):lkM M f=Lm M f:=by unfold lkM;rw[if_pos h]
theorem lkM5{M:Mm}{f:Fr}(h:f.pl=5):lkM M f=Ee M f:=by unfold lkM;rw[if_neg (by omega),if_pos h]
theorem lkM6{M:Mm}{f:Fr}(h:f.pl=6):lkM M f=Ee M f:=by unfold lkM;rw[if_neg (by omega),if_neg (by omega),if_pos h]
end
section
def Ht(f:Fr)(p c n:Int):Fr:={ f with prev:=p,cur:=c,pl:=n }
def Du(f:Fr)(e n:Int):Fr:={ f with e:=e,pl:=n }
def Fh(M:Mm)(f:Fr):Fr:=if Ce M (bkN M f)=-1 then toF f 1 else f
def Tn(M:Mm)(f:Fr):Fr:=if Ej M f then toF f (if lkK (Aa M (f.cur - 1)) f then 4 else 3) else Du f 5 5
def Pi(M:Mm)(f:Fr):Fr:=if Ej M f then Ht f f.cur (Aa M (f.cur - 1)).next 2 else Du f 8 5
def Oz(M:Mm)(f:Fr):Fr:=if Ej M f then { f with slot:=f.cur - 1,e:=0,pl:=5 } else Du f 8 5
def Gl(M:Mm)(f:Fr):Mm:=if Ej M f then I7 M (bkN M f) f.prev (f.cur - 1) else M
def Rx(M:Mm)(f:Fr):Mm:=if Dc M f.slot then Em M f.slot else M
def drF(M:Mm)(f:Fr):Fr :=
 if f.pl=0 then Fh M f else if f.pl=1 then Ht f 0 (Bf M (bkN M f)) 2 else if f.pl=2 then Tn M f else if f.pl=3 then Pi M f
 else if f.pl=4 then Oz M f else if f.pl=5 then toF f 6 else if f.pl=6 then Ag { f with slot:=-1 } f.e else Du f 8 5
def drM(t:Int)(M:Mm)(f:Fr):Mm :=
 if f.pl=0 then Eu M f t else if f.pl=4 then Gl M f else if f.pl=5 then Ew M f t else if f.pl=6 then Rx M f else M
theorem drF0{M:Mm}{f:Fr}(h:f.pl=0):drF M f=Fh M f:=by unfold drF;rw[if_pos h]
theorem drF1{M:Mm}{f:Fr}(h:f.pl=1):drF M f=Ht f 0 (Bf M (bkN M f)) 2:=by unfold drF;rw[if_neg (by omega),if_pos h]
theorem drF2{M:Mm}{f:Fr}(h:f.pl=2):drF M f=Tn M f:=by unfold drF;rw[if_neg (by omega),if_neg (by omega),if_pos h]
theorem drF3{M:Mm}{f:Fr}(h:f.pl=3):drF M f=Pi M f:=by unfold drF;rw[if_neg (by omega),if_neg (by omega),if_neg (by omega),if_pos h]
theorem drF4{M:Mm}{f:Fr}(h:f.pl=4):drF M f=Oz M f:=by unfold drF;rw[if_neg (by omega),if_neg (by omega),if_neg (by omega),if_neg (by omega),if_pos h]
theorem drF5{M:Mm}{f:Fr}(h:f.pl=5):drF M f=toF f 6:=by unfold drF;rw[if_neg (by omega),if_neg (by omega),if_neg (by omega),if_neg (by omega),if_neg (by omega),if_pos h]
theorem drF6{M:Mm}{f:Fr}(h:f.pl=6):drF M f=Ag { f with slot:=-1 } f.e:=by unfold drF;rw[if_neg (by omega),if_neg (by omega),if_neg (by omega),if_neg (by omega),if_neg (by omega),if_neg (by omega),if_pos h]
theorem drF7{M:Mm}{f:Fr}(h:7<=f.pl):drF M f=Du f 8 5:=by unfold drF;rw[if_neg (by omega),if_neg (by omega),if_neg (by omega),if_neg (by omega),if_neg (by omega),if_neg (by omega),if_neg (by omega)]
theorem drM0{M:Mm}{f:Fr}{t:Int}(h:f.pl=0):drM t M f=Eu M f t:=by unfold drM;rw[if_pos h]
theorem drM4{M:Mm}{f:Fr}{t:Int}(h:f.pl=4):drM t M f=Gl M f:=by unfold drM;rw[if_neg (by omega),if_pos h]
theorem drM5{M:Mm}{f:Fr}{t:Int}(h:f.pl=5):drM t M f=Ew M f t:=by unfold drM;rw[if_neg (by omega),if_neg (by omega),if_pos h]
theorem drM6{M:Mm}{f:Fr}{t:Int}(h:f.pl=6):drM t M f=Rx M f:=by unfold drM;rw[if_neg (by omega),if_neg (by omega),if_neg (by omega),if_pos h]
theorem Ip{M:Mm}{f:Fr}{t:Int}(h:f.pl≠0/\f.pl≠4/\f.pl≠5/\f.pl≠6):drM t M f=M:=by unfold drM;rw[if_neg h.1,if_neg h.2.1,if_neg h.2.2.1,if_neg h.2.2.2]
theorem drF_c(M:Mm)(f:Fr):(drF M f).c=f.c:=by
 unfold drF Fh Tn Pi Oz
 repeat' split
 all_goals rfl
theorem a7f(M:Mm)(f:Fr):(drF M f).keys=f.keys:=by
 unfold drF Fh Tn Pi Oz
 repeat' split
 all_goals rfl
theorem a7o(l:List Sl)(j k:Nat)(x:Sl):(l.set j x).getD k sl0=if j=k/\j<l.length then x else l.getD k sl0:=by
 rw[List.getD_eq_getElem?_getD,List.getD_eq_getElem?_getD,List.getElem?_set]
 by_cases e:j=k
 ·subst e
  by_cases h:j<l.length
  ·rw[if_pos rfl,if_pos h,if_pos ⟨rfl,h⟩];rfl
  ·rw[if_pos rfl,if_neg h,if_neg (fun h'=>h h'.2),List.getElem?_eq_none (by omega)]
 ·rw[if_neg e,if_neg (fun h=>e h.1)]
end
section
def N7(M:Mm)(f:Fr):List (Int × Int):=if f.keys.length<100 then f.keys ++ [keyAt M (f.cur - 1)] else f.keys
def Eh(M:Mm)(f:Fr):Fr :=
 if Ej M f then (if f.c.kind=5 then { f with keys:=N7 M f,pl:=3 } else if M.now<(Aa M (f.cur - 1)).unt then toF f 3 else toF f 4) else toF f 6
def Jm(M:Mm)(f:Fr):Fr:=if Ej M f then Ht f f.cur (Aa M (f.cur - 1)).next 2 else toF f 6
def Jy(M:Mm)(f:Fr):Fr:=if Ej M f then { f with slot:=f.cur - 1,cur:=(Aa M (f.cur - 1)).next,pl:=5 } else toF f 6
def Nk(M:Mm)(f:Fr):Fr:=if Dc M f.slot then { f with slot:=-1,n:=if f.n<1000000 then f.n+1 else f.n,pl:=2 } else toF f 6
def swF(M:Mm)(f:Fr):Fr :=
 if f.pl=0 then Fh M f else if f.pl=1 then Ht f 0 (Bf M (bkN M f)) 2 else if f.pl=2 then Eh M f else if f.pl=3 then Jm M f
 else if f.pl=4 then Jy M f else if f.pl=5 then Nk M f else if f.pl=6 then Ag f 0 else toF f 6
def swM(t:Int)(M:Mm)(f:Fr):Mm :=
 if f.pl=0 then Eu M f t else if f.pl=4 then Gl M f else if f.pl=5 then Rx M f else if f.pl=6 then Ew M f t else M
theorem swF0{M:Mm}{f:Fr}(h:f.pl=0):swF M f=Fh M f:=by unfold swF;rw[if_pos h]
theorem swF1{M:Mm}{f:Fr}(h:f.pl=1):swF M f=Ht f 0 (Bf M (bkN M f)) 2:=by unfold swF;rw[if_neg (by omega),if_pos h]
theorem b2h{M:Mm}{f:Fr}(h:f.pl=2):swF M f=Eh M f:=by unfold swF;rw[if_neg (by omega),if_neg (by omega),if_pos h]
theorem swF3{M:Mm}{f:Fr}(h:f.pl=3):swF M f=Jm M f:=by unfold swF;rw[if_neg (by omega),if_neg (by omega),if_neg (by omega),if_pos h]
theorem swF4{M:Mm}{f:Fr}(h:f.pl=4):swF M f=Jy M f:=by unfold swF;rw[if_neg (by omega),if_neg (by omega),if_neg (by omega),if_neg (by omega),if_pos h]
theorem swF5{M:Mm}{f:Fr}(h:f.pl=5):swF M f=Nk M f:=by unfold swF;rw[if_neg (by omega),if_neg (by omega),if_neg (by omega),if_neg (by omega),if_neg (by omega),if_pos h]
theorem swF6{M:Mm}{f:Fr}(h:f.pl=6):swF M f=Ag f 0:=by unfold swF;rw[if_neg (by omega),if_neg (by omega),if_neg (by omega),if_neg (by omega),if_neg (by omega),if_neg (by omega),if_pos h]
theorem swF7{M:Mm}{f:Fr}(h:7<=f.pl):swF M f=toF f 6:=by unfold swF;rw[if_neg (by omega),if_neg (by omega),if_neg (by omega),if_neg (by omega),if_neg (by omega),if_neg (by omega),if_neg (by omega)]
theorem swM0{M:Mm}{f:Fr}{t:Int}(h:f.pl=0):swM t M f=Eu M f t:=by unfold swM;rw[if_pos h]
theorem swM4{M:Mm}{f:Fr}{t:Int}(h:f.pl=4):swM t M f=Gl M f:=by unfold swM;rw[if_neg (by omega),if_pos h]
theorem swM5{M:Mm}{f:Fr}{t:Int}(h:f.pl=5):swM t M f=Rx M f:=by unfold swM;rw[if_neg (by omega),if_neg (by omega),if_pos h]
theorem swM6{M:Mm}{f:Fr}{t:Int}(h:f.pl=6):swM t M f=Ew M f t:=by unfold swM;rw[if_neg (by omega),if_neg (by omega),if_neg (by omega),if_pos h]
theorem I4{M:Mm}{f:Fr}{t:Int}(h:f.pl≠0/\f.pl≠4/\f.pl≠5/\f.pl≠6):swM t M f=M:=by unfold swM;rw[if_neg h.1,if_neg h.2.1,if_neg h.2.2.1,if_neg h.2.2.2]
theorem swF_c(M:Mm)(f:Fr):(swF M f).c=f.c:=by
 unfold swF Fh Eh Jm Jy Nk
 repeat' split
 all_goals rfl
theorem a9s(M:Mm)(f:Fr):(swF M f).keys=f.keys\/(f.c.kind=5/\f.keys.length<100/\(swF M f).keys=f.keys ++ [keyAt M (f.cur - 1)]):=by
 unfold swF Fh Eh Jm Jy Nk
 repeat' split
 all_goals first
  | exact .inl rfl
  | skip
 all_goals
  show N7 M f=f.keys\/_
  unfold N7
  split
  ·exact .inr ⟨by assumption,by assumption,rfl⟩
  ·exact .inl rfl
end
section
def run(nf:Mm->Fr->Fr)(nm:Mm->Fr->Mm):Nat->Mm->Fr->Mm × Fr × Bool
 | 0,M,f=>(M,f,false)
 | k+1,M,f=>if (nf M f).done then (nm M f,nf M f,true) else run nf nm k (nm M f) (nf M f)
end
end Go.Proofs.YthhgoenomehobaaGreat.mm
