/- Parts. -/
import Derived.Test.YthhgoenomehobaaGreatP02
import Derived.Test.YthhgoenomehobaaGreatP06
import Derived.OrdersHeld
namespace Go.Proofs.YthhgoenomehobaaGreat.mm
open Int renaming tmod_eq_emod_of_nonneg → dG, mul_nonneg → dI, mul_le_mul → dJ
open RowKit renaming wrap64 → dE
open Bool renaming and_eq_true → cO, not_eq_false → cZ, not_eq_true → dC
open Region renaming ready → bZ
open List renaming range → aU, length_cons → bV, mem_filter → bW, filter_cons → bY
open Tryz
set_option maxRecDepth 100000
set_option linter.unusedVariables false
open Tryz renaming prog → Pg
open Go renaming World → Wq
variable {nS nH:Nat}{md:Region.Mode}{k k':Int × Int}{P:Program}{bn:Array Oper}{ag:Array Bool}{i:Nat}{Q:Exit->Act->Wq->Prop}{id:Nat}{a:Act}{M:Mm}{w w':Wq}{g n:Nat}{l:List Int}{f:Fr}{t:Int}{c:Cl}{G:Prop}{D:DataW Unit}
def toF(f:Fr)(n:Int):Fr:={ f with l:=n }
def U6(f:Fr)(c n:Int):Fr:={ f with u:=c,l:=n }
def Gq(f:Fr)(s n:Int):Fr:={ f with h:=s,l:=n }
def Fe(M:Mm)(f:Fr):Bool:=inB f.u 1 M.s.length
def lkK(s:Sl)(f:Fr):Bool:=s.a==f.c.a && s.b==f.c.b
def Ff(M:Mm)(a:Int):Mm:=if Eg M a=0 then M else Vj M a
def Si(M:Mm)(a:Int):Bool:=decide (0<Eg M a) && decide (Eg M a<1000)
def holdN(M:Mm)(a:Int):Mm:=if Si M a then a9z M a else M
def Tq(M:Mm)(f:Fr):Fr:=U6 f (Bq M (Fz M.h.length f.c).toNat) 1
def V6(M:Mm)(f:Fr):Fr :=
 if f.u=-1 - Fz M.h.length f.c then Ak f 5
 else if Fe M f then toF f (if lkK (Aa M (f.u - 1)) f then 3 else 2) else toF f 0
def O4(M:Mm)(f:Fr):Fr:=if Fe M f then U6 f (Aa M (f.u - 1)).next 1 else toF f 0
def Nz(M:Mm)(f:Fr):Fr:=if Fe M f && Si M (f.u - 1) then Gq f (f.u - 1) 4 else toF f 0
def O0(M:Mm)(f:Fr):Mm:=if Fe M f then holdN M (f.u - 1) else M
def Lt(M:Mm)(f:Fr):Fr :=
 if Dp M f.h then
  (if lkK (Aa M f.h) f && (Aa M f.h).inn then (if M.w<(Aa M f.h).unt then Ak f 0 else toF f 6) else toF f 5)
 else toF f 0
def Es(M:Mm)(f:Fr):Mm:=if Dp M f.h then Ff M f.h else M
def Jp(M:Mm)(f:Fr):Fr:=if Dp M f.h then Gq f (-1) 0 else toF f 0
def O1(M:Mm)(f:Fr):Fr:=if Dp M f.h then Ak { f with h:=-1 } 5 else toF f 0
def lkF(M:Mm)(f:Fr):Fr :=
 if f.l=0 then Tq M f else if f.l=1 then V6 M f else if f.l=2 then O4 M f else if f.l=3 then Nz M f
 else if f.l=4 then Lt M f else if f.l=5 then Jp M f else if f.l=6 then O1 M f else toF f 0
def lkM(M:Mm)(f:Fr):Mm :=
 if f.l=3 then O0 M f else if f.l=5 then Es M f else if f.l=6 then Es M f else M
structure Fit(M:Mm)(f:Fr):Prop where
 call:Dh M.s.length M.h.length f.c=0
 l:0<=f.l/\f.l<=9
 n:inB f.n 0 1000000=true
 d:f.d=false
 u:-(M.h.length:Int)<=f.u/\f.u<=M.s.length
 p:0<=f.p/\f.p<=M.s.length
 h:-1<=f.h/\f.h<M.s.length
 t:f.t.length<=100
theorem a5k:frE M.s.length M.h.length f=0 ↔ Fit M f:=by
 constructor
 ·intro h
  unfold frE at h
  by_cases h1:Dh M.s.length M.h.length f.c=0
  ·rw[ae (by simpa using h1)] at h
   by_cases h2:inB f.l 0 9=false\/inB f.n 0 1000000=false\/f.d=true
   ·rw[af h2] at h;omega
   ·rw[ae h2] at h
    by_cases h3:inB f.u (-(M.h.length:Int)) M.s.length=false\/inB f.p 0 M.s.length=false\/inB f.h (-1) ((M.s.length:Int) - 1)=false
    ·rw[af h3] at h;omega
    ·rw[ae h3] at h
     by_cases h4:100<f.t.length
     ·rw[af h4] at h;omega
     ·simp only[not_or,cZ,dC,Ar] at h2 h3
      exact⟨h1,h2.1,(Ar _ _ _).2 h2.2.1,h2.2.2,h3.1,h3.2.1,⟨h3.2.2.1,by have:=h3.2.2.2;omega⟩,by omega⟩
  ·rw[af h1] at h;exact absurd h h1
 ·rintro ⟨h1,h2,h3,h4,h5,h6,h7,h8⟩
  unfold frE
  rw[ae (by simpa using h1),ae,ae,ae (by omega)]
  ·simp only[not_or,cZ,Ar]
   exact⟨h5,h6,h7.1,by omega⟩
  ·simp only[not_or,cZ,dC]
   exact⟨(Ar _ _ _).2 h2,h3,h4⟩
theorem Ia(hM:Ok M)(h:Dh M.s.length M.h.length c=0):0<=Fz M.h.length c/\Fz M.h.length c<M.h.length:=by
 obtain⟨n1,n2⟩:=hM.nh
 by_cases hb:c.k=4\/c.k=5
 ·unfold Dh at h
  rw[ae (by omega),ae (by omega),af hb] at h
  cases hi:inB c.q 0 ((M.h.length:Int) - 1)
  ·rw[hi] at h;simp at h
  ·rw[Ar] at hi
   unfold Fz
   rw[af hb]
   omega
 ·unfold Fz
  rw[ae hb]
  by_cases hk:Ei c.a c.b=true
  ·rw[af hk,af ⟨n1,n2⟩]
   exact a6j c.a c.b n1
  ·rw[ae hk]
   omega
theorem Fh:Fe M f=true ↔ 1<=f.u/\f.u<=M.s.length:=by unfold Fe;rw[Ar]
theorem Ez{i:Int}:Dp M i=true ↔ 0<=i/\i<M.s.length:=by
 unfold Dp
 rw[Ar]
 omega
theorem a4l{i:Int}(h:Dp M i=true):Aa M i∈M.s:=by
 obtain⟨j,rfl,hj⟩:=(a1j M i).1 h
 unfold Aa
 rw[Int.toNat_natCast,getD_lt _ _ hj]
 exact List.getElem_mem hj
theorem Qc(hM:Ok M){i:Int}(h:Dp M i=true):0<=Eg M i/\Eg M i<=1000:=by
 have:=(I5 (hM.h _ (a4l h))).1
 rw[Ar] at this
 exact this
theorem Sj{a:Int}:Si M a=true ↔ 0<Eg M a/\Eg M a<1000:=by simp[Si]
theorem lkF_c(M:Mm)(f:Fr):(lkF M f).c=f.c:=by
 unfold lkF Tq V6 O4 Nz Lt Jp O1
 repeat' split
 all_goals rfl
theorem b0j(M:Mm)(f:Fr):(lkF M f).t=f.t:=by
 unfold lkF Tq V6 O4 Nz Lt Jp O1
 repeat' split
 all_goals rfl
def D6(M:Mm)(b:Nat):Int:=M.l.getD b 0
def a1o(M:Mm)(b:Nat)(t:Int):Mm:={ M with l:=M.l.set b t }
def Tm(M:Mm)(a:Int)(b:Nat):Mm:={ M with s:=M.s.set a.toNat { Aa M a with next:=Bq M b,inn:=true },h:=M.h.set b (a+1) }
def bkN(M:Mm)(f:Fr):Nat:=(Fz M.h.length f.c).toNat
def a8s(M:Mm)(f:Fr):Int:=if 2000000<M.w+f.c.t then 2000000 else M.w+f.c.t
def D5(f:Fr):Fr:={ f with e:=8,l:=7 }
def Kv(M:Mm)(f:Fr):Fr:=if M.f.length=0 then Ak f 7 else Gq f (Gw M) 1
def Jl(M:Mm)(f:Fr):Mm:=if M.f.length=0 then M else Pj M f.c.a f.c.b (a8s M f)
def Qo(M:Mm)(f:Fr):Fr:=if D6 M (bkN M f)=-1 then toF f 2 else f
def Fq(M:Mm)(f:Fr)(t:Int):Mm:=if D6 M (bkN M f)=-1 then a1o M (bkN M f) t else M
def Un(M:Mm)(f:Fr):Fr:=if Fe M f then toF f (if lkK (Aa M (f.u - 1)) f then 6 else 4) else toF f 5
def Oq(M:Mm)(f:Fr):Fr:=if Fe M f then U6 f (Aa M (f.u - 1)).next 3 else D5 f
def Me(M:Mm)(f:Fr):Fr:=if Dp M f.h then { f with e:=0,l:=7 } else D5 f
def Lj(M:Mm)(f:Fr):Mm:=if Dp M f.h then Tm M f.h (bkN M f) else M
def Um(M:Mm)(f:Fr):Fr:=if Dp M f.h then { f with h:=-1,e:=6,l:=7 } else D5 f
def a2v(M:Mm)(f:Fr):Mm:=if Dp M f.h then Ff M f.h else M
def Fv(M:Mm)(f:Fr)(t:Int):Mm:=if D6 M (bkN M f)=t then a1o M (bkN M f) (-1) else M
def adF(M:Mm)(f:Fr):Fr :=
 if f.l=0 then Kv M f else if f.l=1 then Qo M f else if f.l=2 then U6 f (Bq M (bkN M f)) 3 else if f.l=3 then Un M f
 else if f.l=4 then Oq M f else if f.l=5 then Me M f else if f.l=6 then Um M f else if f.l=7 then Ak f f.e else D5 f
def adM(t:Int)(M:Mm)(f:Fr):Mm :=
 if f.l=0 then Jl M f else if f.l=1 then Fq M f t else if f.l=5 then Lj M f else if f.l=6 then a2v M f else if f.l=7 then Fv M f t else M
theorem adF0(h:f.l=0):adF M f=Kv M f:=by unfold adF;rw[af h]
theorem adF1(h:f.l=1):adF M f=Qo M f:=by unfold adF;rw[ae (by omega),af h]
theorem adF2(h:f.l=2):adF M f=U6 f (Bq M (bkN M f)) 3:=by unfold adF;rw[ae (by omega),ae (by omega),af h]
theorem adF3(h:f.l=3):adF M f=Un M f:=by unfold adF;rw[ae (by omega),ae (by omega),ae (by omega),af h]
theorem adF4(h:f.l=4):adF M f=Oq M f:=by unfold adF;rw[ae (by omega),ae (by omega),ae (by omega),ae (by omega),af h]
theorem adF5(h:f.l=5):adF M f=Me M f:=by unfold adF;rw[ae (by omega),ae (by omega),ae (by omega),ae (by omega),ae (by omega),af h]
theorem adF6(h:f.l=6):adF M f=Um M f:=by unfold adF;rw[ae (by omega),ae (by omega),ae (by omega),ae (by omega),ae (by omega),ae (by omega),af h]
theorem adF7(h:f.l=7):adF M f=Ak f f.e:=by unfold adF;rw[ae (by omega),ae (by omega),ae (by omega),ae (by omega),ae (by omega),ae (by omega),ae (by omega),af h]
theorem adF8(h:8<=f.l):adF M f=D5 f:=by unfold adF;rw[ae (by omega),ae (by omega),ae (by omega),ae (by omega),ae (by omega),ae (by omega),ae (by omega),ae (by omega)]
theorem adM0(h:f.l=0):adM t M f=Jl M f:=by unfold adM;rw[af h]
theorem adM1(h:f.l=1):adM t M f=Fq M f t:=by unfold adM;rw[ae (by omega),af h]
theorem adM5(h:f.l=5):adM t M f=Lj M f:=by unfold adM;rw[ae (by omega),ae (by omega),af h]
theorem adM6(h:f.l=6):adM t M f=a2v M f:=by unfold adM;rw[ae (by omega),ae (by omega),ae (by omega),af h]
theorem adM7(h:f.l=7):adM t M f=Fv M f t:=by unfold adM;rw[ae (by omega),ae (by omega),ae (by omega),ae (by omega),af h]
theorem J8(h:f.l≠0/\f.l≠1/\f.l≠5/\f.l≠6/\f.l≠7):adM t M f=M:=by unfold adM;rw[ae h.1,ae h.2.1,ae h.2.2.1,ae h.2.2.2.1,ae h.2.2.2.2]
theorem adF_c(M:Mm)(f:Fr):(adF M f).c=f.c:=by
 unfold adF Kv Qo Un Oq Me Um
 repeat' split
 all_goals rfl
theorem a9d(M:Mm)(f:Fr):(adF M f).t=f.t:=by
 unfold adF Kv Qo Un Oq Me Um
 repeat' split
 all_goals rfl
theorem Vo(hk:c.k=2)(h:Dh nS nH c=0):Ei c.a c.b=true/\1<=c.t/\c.t<=1000000:=by
 obtain⟨k,a,b,t,bk,sl⟩:=c
 have rO:k=2:=hk
 subst rO
 rw[U5] at h
 cases hb:inB t 1 1000000 && Ei a b
 ·rw[hb] at h;simp at h
 ·simp only[cO,Ar] at hb
  exact⟨hb.2,hb.1⟩
theorem lkF0(h:f.l=0):lkF M f=Tq M f:=by unfold lkF;rw[af h]
theorem lkF1(h:f.l=1):lkF M f=V6 M f:=by unfold lkF;rw[ae (by omega),af h]
theorem lkF2(h:f.l=2):lkF M f=O4 M f:=by unfold lkF;rw[ae (by omega),ae (by omega),af h]
theorem lkF3(h:f.l=3):lkF M f=Nz M f:=by unfold lkF;rw[ae (by omega),ae (by omega),ae (by omega),af h]
theorem lkF4(h:f.l=4):lkF M f=Lt M f:=by unfold lkF;rw[ae (by omega),ae (by omega),ae (by omega),ae (by omega),af h]
theorem lkF5(h:f.l=5):lkF M f=Jp M f:=by unfold lkF;rw[ae (by omega),ae (by omega),ae (by omega),ae (by omega),ae (by omega),af h]
theorem lkF6(h:f.l=6):lkF M f=O1 M f:=by unfold lkF;rw[ae (by omega),ae (by omega),ae (by omega),ae (by omega),ae (by omega),ae (by omega),af h]
theorem lkF7(h:7<=f.l):lkF M f=toF f 0:=by unfold lkF;rw[ae (by omega),ae (by omega),ae (by omega),ae (by omega),ae (by omega),ae (by omega),ae (by omega)]
theorem P8(h:f.l≠3/\f.l≠5/\f.l≠6):lkM M f=M:=by unfold lkM;rw[ae h.1,ae h.2.1,ae h.2.2]
theorem lkM3(h:f.l=3):lkM M f=O0 M f:=by unfold lkM;rw[af h]
theorem lkM5(h:f.l=5):lkM M f=Es M f:=by unfold lkM;rw[ae (by omega),af h]
theorem lkM6(h:f.l=6):lkM M f=Es M f:=by unfold lkM;rw[ae (by omega),ae (by omega),af h]
section
open ChangeShapes WideShapes ChangeAt RowKit Maps
theorem Yc(a b:Int)(n:Nat)(w:Wq)(hk:Ei a b=true)(n0:1<=n)(n1:n<=4) :
  Calls Pg 49 #[.agg #[.int .i64 a,.int .i64 b],.int .i64 n] w fun e w'=>e=.returned (.tuple #[.int .i64 (Eh a b n),.int .i64 0])/\Below w.heap.size w w':=by
 obtain⟨⟨h0,h1⟩,h2,h3⟩:=(L6 a b).1 hk
 have OQ:0<=a*b:=dI h0 h2
 have OO:a*b<=15*15:=dJ h1 h3 h2 (by omega)
 have e1:dE (a*b)=a*b:=by unfold dE;omega
 have e2:dE (7*a+3*b+a*b)=7*a+3*b+a*b:=by unfold dE;omega
 have e3:(7*a+3*b+a*b).tmod n=(7*a+3*b+a*b) % n:=dG (by omega)
 have H1:Qi ((dE (7*a+3*b+dE (a*b))).tmod n=Eh a b n):=by rw[e1,e2,e3];trivial
 clear e1 e2 e3 OQ OO
 have HK:Qi (Ei a b=true):=hk
 clear hk
 go_enter func49,ntmps49
 go_wp2_with fail
 refine(P6 _ _ _ HK.o).mono ?_
 rintro e w1 ⟨rfl,bu⟩
 have c0:w1.cell? ⟨w.heap.size,0,none⟩=some (.int .i64 a):=(bu.cell (p:=⟨w.heap.size,0,none⟩) (by simp)).trans (by simp)
 have c1:w1.cell? ⟨w.heap.size,1,none⟩=some (.int .i64 b):=(bu.cell (p:=⟨w.heap.size,1,none⟩) (by simp)).trans (by simp)
 go_wp2
 go_ret2
 refine⟨?_,((Below.refl _ _).alloc (Nat.le_refl _) _).trans (bu.mono (by simp))⟩
 show Ending.returned (.tuple #[.int .i64 ((dE (7*a+3*b+dE (a*b))).tmod n),.int .i64 0])=_
 rw[H1.o]
theorem a2y(a b:Int)(n:Int)(w:Wq)(h:Ei a b=false) :
  Calls Pg 49 #[.agg #[.int .i64 a,.int .i64 b],.int .i64 n] w fun e w'=>e=.returned (.tuple #[.int .i64 0,.int .i64 3])/\Below w.heap.size w w':=by
 go_enter func49,ntmps49
 go_wp2_with (first|(go_at_call 96;refine(Xe _ _ _ h).mono ?_;rintro e w1 ⟨rfl,bu⟩))
 go_ret2
 exact⟨rfl,((Below.refl _ _).alloc (Nat.le_refl _) _).trans (bu.mono (by simp))⟩
theorem S9(a b:Int)(n:Nat)(w:Wq)(hk:Ei a b=true)(n0:1<=n)(n1:n<=4) :
  Calls Pg 134 #[.agg #[.int .i64 a,.int .i64 b],.int .i64 n] w fun e w'=>e=.returned (.int .i64 (Eh a b n))/\Below w.heap.size w w':=by
 obtain⟨⟨h0,h1⟩,h2,h3⟩:=(L6 a b).1 hk
 clear hk
 have hm:(a+3)*(b+7)=a*b+7*a+3*b+21:=by rw[Int.add_mul,Int.mul_add,Int.mul_add];omega
 have OQ:0<=a*b:=dI h0 h2
 have OO:a*b<=15*15:=dJ h1 h3 h2 (by omega)
 have e1:dE ((a+3)*(b+7))=a*b+7*a+3*b+21:=by rw[hm];unfold dE;omega
 have e2:dE (a*b+7*a+3*b+21 - 21)=7*a+3*b+a*b:=by unfold dE;omega
 have e3:(7*a+3*b+a*b).tmod n=(7*a+3*b+a*b) % n:=dG (by omega)
 have H1:Qi (dE (dE ((a+3)*(b+7)) - 21)=7*a+3*b+a*b):=by rw[e1];exact e2
 have H3:Qi ((7*a+3*b+a*b).tmod n=Eh a b n):=e3
 clear hm OQ OO e1 e2 e3
 go_enter func134,ntmps134
 go_wp2
 go_ret
 refine⟨?_,A7 _ _⟩
 show Ending.returned (.int .i64 ((dE (dE ((a+3)*(b+7)) - 21)).tmod n))=_
 rw[H1.o,H3.o]
theorem laid:laidOutB Pg=true:=by kernel_rfl
theorem b5h:(30:TypeId)<Pg.types.size:=of_decide_eq_true (by kernel_rfl)
theorem b6w:(match Pg.underlying 30 with|some (.array _ _)|some (.struct _)=>true|_=>false)=true:=by rw[underlying30]
theorem b0f:Keyed Pg 30:=Keyed.of_law (deep_law_laid laid (m:=3) (by omega) b5h (by kernel_rfl) b6w)
theorem a2k:Pg.underlying 121=some (.map 30 3):=by kernel_rfl
theorem zero3(w:Wq):(zeroValue 3).run Pg w=.ok (.int .i64 0) w:=by kernel_rfl
theorem a7e:Pg.keyType 30=true:=by kernel_rfl
theorem a1k:Pg.cellsOf 30=2:=by kernel_rfl
theorem b3q:Pg.cellsOf 3=1:=by kernel_rfl
theorem ksize:∃ m,Pg.types.size=m+1:=by
 have h:0<Pg.types.size:=Nat.lt_of_le_of_lt (Nat.zero_le _) (show 30<Pg.types.size from b5h)
 exact⟨Pg.types.size - 1,by omega⟩
def kl(k:Int × Int):Lit:=.string (keyBytes [.int .i64 k.1,.int .i64 k.2])
theorem Tj{a b:Int}(wa:(Lit.int .i64 a).wf=true)(wb:(Lit.int .i64 b).wf=true):keyOf Pg 30 (.agg #[.int .i64 a,.int .i64 b])=some (kl (a,b)):=by
 obtain⟨m,hm⟩:=ksize
 unfold keyOf
 simp only[underlying30]
 rw[af (by simp[a7e,Value.formed,underlying30,a1k]),hm]
 unfold Program.keyLits
 simp only[underlying30,Value.cells]
 rw[af (by rw[a1k];exact⟨rfl,by kernel_rfl⟩)]
 simp[b3q,Program.keyLits,underlying3,wa,wb,kl]
theorem Ls{a b:Int}(h:Ei a b=true):(Lit.int .i64 a).wf=true/\(Lit.int .i64 b).wf=true:=by
 obtain⟨⟨h0,h1⟩,h2,h3⟩:=(L6 a b).1 h
 exact⟨wf64 (by omega) (by omega),wf64 (by omega) (by omega)⟩
theorem b5w(h:Ei k.1 k.2=true)(h':Ei k'.1 k'.2=true)(e:kl k=kl k'):k=k':=by
 have h1:=Tj (Ls h).1 (Ls h).2
 have h2:=Tj (Ls h').1 (Ls h').2
 have:(k.1,k.2)=k:=rfl
 rw[this] at h1
 have:(k'.1,k'.2)=k':=rfl
 rw[this,<- e] at h2
 have:=b0f.inj h1 h2
 simp at this
 exact Prod.ext this.1 this.2
def MapAt(M:Mm)(w:Wq)(g:Nat)(all:List Int):Prop :=
 ∃ n,n<=all.length/\∃ D:DataW Unit,w.ownsMap Pg 30 (plainElem Pg 3) g n D/\∀ k:Int × Int,Ei k.1 k.2=true->D.atKey (kl k) (.lit (.int .i64 0))=.lit (.int .i64 (a4x M all k))/\Maps.has D (kl k)=hasK M all k
theorem MapAt.made(M:Mm)(w:Wq):MapAt M (w.alloc (.map #[] 0)) w.heap.size [] :=
 ⟨0,Nat.le_refl _,_,World.ownsMap_made w Pg 30 _,fun k hk=>⟨by simp[a4x,DataW.atKey],by simp[hasK,Maps.has]⟩⟩
theorem MapAt.kept(h:MapAt M w g l)(hb:w'.heap[g]?=w.heap[g]?):MapAt M w' g l:=by
 obtain⟨n,hn,D,⟨es,qX,hg,F,hs,hD⟩,jc⟩:=h
 exact⟨n,hn,D,⟨es,qX,hb.trans hg,F,hs,hD⟩,jc⟩
theorem MapAt.lt(h:MapAt M w g l):g<w.heap.size:=by
 obtain⟨n,hn,D,⟨es,qX,hg,F,hs,hD⟩,jc⟩:=h
 exact lt_of_block hg
theorem MapAt.look(h:MapAt M w g l){a b:Int}(hk:Ei a b=true):(Instr.lookup 121 (.map (some g)) (.agg #[.int .i64 a,.int .i64 b]) true).run Pg w=.ok (.tuple #[.int .i64 (a4x M l (a,b)),.bool (hasK M l (a,b))]) w:=by
 obtain⟨n,hn,D,ho,jc⟩:=h
 have hw0:(Lit.int .i64 0).wf=true:=by decide
 obtain⟨v,ps,yf,hv⟩:=ho.look_ok b0f a2k (zero3 w) (plainElem_int underlying3 hw0) (Tj (Ls hk).1 (Ls hk).2)
 rw[(jc (a,b) hk).1] at hv
 obtain⟨c,rfl,hc,hwc⟩:=_root_.Go.plainElem_int_inv underlying3 hv
 rw[yf,(jc (a,b) hk).2]
 injection hc with h1 h2
 injection h1 with h1
 injection h1 with _ h1
 rw[h1]
theorem a8t{a:Int}{k:Int × Int}(h:hasK M l (keyAt M a)=false):a4x M (l ++ [a]) k=if k=keyAt M a then a else a4x M l k:=by
 unfold a4x
 rw[List.find?_append]
 by_cases e:k=keyAt M a
 ·subst e
  rw[af rfl]
  have:l.find? (fun x=>keyAt M x==keyAt M a)=none:=by
   rw[List.find?_eq_none]
   intro x hx hh
   rw[beq_iff_eq] at hh
   have:=(P5 M l (keyAt M a)).2 (by rw[<- hh];exact List.mem_map_of_mem hx)
   rw[h] at this
   cases this
  rw[this]
  simp
 ·rw[ae e]
  have:[a].find? (fun x=>keyAt M x==k)=none:=by
   simp only[List.find?_cons,List.find?_nil]
   rw[show (keyAt M a==k)=false by simpa using fun hh=>e (Eq.symm hh)]
  rw[this]
  simp
theorem a6z(M:Mm)(l:List Int)(a:Int)(k:Int × Int):hasK M (l ++ [a]) k=(hasK M l k || decide (k=keyAt M a)):=by
 rw[Bool.eq_iff_iff,P5,List.map_append,List.mem_append,Bool.or_eq_true,P5]
 simp
theorem MapAt.put{a:Int}(hn:n<=l.length)(ht:IsMap D)(jc:∀ k:Int × Int,Ei k.1 k.2=true->D.atKey (kl k) (.lit (.int .i64 0))=.lit (.int .i64 (a4x M l k))/\Maps.has D (kl k)=hasK M l k)(hk:Ei (Aa M a).a (Aa M a).b=true)(h0:hasK M l (keyAt M a)=false)(h:w'.ownsMap Pg 30 (plainElem Pg 3) g (n+1) (D.put (kl (keyAt M a)) (.lit (.int .i64 a)))):MapAt M w' g (l ++ [a]):=by
 refine⟨n+1,by simp;omega,_,h,fun k rO=>?_⟩
 have ut:WideAt.IsKeyLit (kl (keyAt M a)):=by simp[kl,WideAt.IsKeyLit]
 rw[a8t h0,a6z]
 by_cases e:k=keyAt M a
 ·subst e
  rw[atKey_put_same ht ut,has_put_same ht ut]
  simp
 ·have iw:kl k≠kl (keyAt M a):=fun hh=>e (b5w rO hk hh)
  rw[atKey_put_other iw,has_put_other iw,(jc k rO).1,(jc k rO).2]
  simp[e]
end
def run(nf:Mm->Fr->Fr)(nm:Mm->Fr->Mm):Nat->Mm->Fr->Mm × Fr × Bool
 | 0,M,f=>(M,f,false)
 | k+1,M,f=>if (nf M f).d then (nm M f,nf M f,true) else run nf nm k (nm M f) (nf M f)
section
open Go
theorem a1a{l:List Nat}{p q:Nat->Bool}(hq:∀ j,q j=true->p j=true):(l.filter q).length<=(l.filter p).length:=by
 induction l with
 | nil=>simp
 | cons x l ih =>
  simp only[bY]
  by_cases h:q x=true
  ·rw[af h,af (hq x h)]
   simp only[bV]
   omega
  ·rw[ae h]
   split
   ·simp only[bV];omega
   ·exact ih
theorem filter_lt{l:List Nat}{p q:Nat->Bool}{i:Nat}(hi:i∈l)(hp:p i=true)(hqi:q i=false)(hq:∀ j,q j=true->p j=true):(l.filter q).length<(l.filter p).length:=by
 induction l with
 | nil=>cases hi
 | cons x l ih =>
  simp only[bY]
  by_cases e:x=i
  ·subst e
   rw[af hp,ae (by rw[hqi];simp)]
   have:=a1a (l:=l) hq
   simp only[bV]
   omega
  ·have hm:i∈l:=by
    rcases List.mem_cons.1 hi with h|h
    ·exact absurd h.symm e
    ·exact h
   have:=ih hm
   by_cases h:q x=true
   ·rw[af h,af (hq x h)]
    simp only[bV]
    omega
   ·rw[ae h]
    split
    ·simp only[bV];omega
    ·exact this
def unl(bn:Array Oper)(ag:Array Bool):Nat:=((aU bn.size).filter fun i=>!ag.getD i true).length
theorem Fb(h:i∈bZ md bn ag) :
  i<bn.size/\ag.getD i true=false/\∃ o,bn[i]?=some o/\∀ e∈o.after,Region.binds md e=true->ag.getD e.on false=true:=by
 unfold bZ at h
 rw[bW] at h
 obtain⟨h1,h2⟩:=h
 rw[cO] at h2
 refine⟨by simpa using h1,by simpa using h2.1,?_⟩
 cases ho:bn[i]? with
 | none=>rw[ho] at h2;simp at h2
 | some o =>
  rw[ho] at h2
  refine⟨o,rfl,fun e he hb=>?_⟩
  have h3:=h2.2
  simp only[Option.map_some,Option.getD_some] at h3
  rw[Array.all_eq_true'] at h3
  have:=h3 e he
  rw[hb] at this
  simpa using this
theorem Zi{P:Program}{md:Region.Mode}{bn:Array Oper}{Q:Exit->Act->Wq->Prop}(Jq:Array Bool->Act->Wq->Prop)
  (step:∀ ag a w i,i∈bZ md bn ag->Jq ag a w->wpOp P bn Q i (fun a' w'=>Jq (ag.setIfInBounds i true) a' w') a w)
  (um:∀ ag a w,bZ md bn ag=[]->Jq ag a w->Q .normal a w) :
  ∀ (qR:Nat) (ag:Array Bool) (a:Act) (w:Wq),unl bn ag<=qR->ag.size=bn.size->Jq ag a w->wpAny P md bn Q qR ag a w
 | 0,ag,a,w,hf,hs,hJ=>by
  have hr:bZ md bn ag=[]:=by
   cases hr:bZ md bn ag with
   | nil=>rfl
   | cons i r =>
    have hi:i∈bZ md bn ag:=by rw[hr];simp
    obtain⟨h1,h2,_⟩:=Fb hi
    have:i∈(aU bn.size).filter fun i=>!ag.getD i true:=by
     rw[bW]
     exact⟨by simpa using h1,by rw[h2];rfl⟩
    unfold unl at hf
    have hz:((aU bn.size).filter fun i=>!ag.getD i true)=[]:=List.eq_nil_of_length_eq_zero (by omega)
    rw[hz] at this
    cases this
  exact⟨hr,um ag a w hr hJ⟩
 | qR+1,ag,a,w,hf,hs,hJ=>by
  refine⟨fun hr=>um ag a w hr hJ,fun i hi=>?_⟩
  obtain⟨h1,h2,_⟩:=Fb hi
  refine wpOp_mono (fun a' w' hJ'=>?_) (step ag a w i hi hJ)
  refine Zi Jq step um qR _ a' w' ?_ (by simpa using hs) hJ'
  have gm:unl bn (ag.setIfInBounds i true)<unl bn ag:=by
   unfold unl
   refine filter_lt (i:=i) (by simpa using h1) (by rw[h2];rfl) ?_ ?_
   ·simp[Array.getD_eq_getD_getElem?,hs,h1]
   ·intro j hj
    by_cases e:i=j
    ·subst e
     rw[h2];rfl
    ·simpa [Array.getD_eq_getD_getElem?,Array.getElem?_setIfInBounds,e] using hj
  omega
theorem Gi(hm:P.follows .mixedOrders=true)(Jq:Array Bool->Act->Wq->Prop)(start:Jq (Array.replicate bn.size false) a { w with drawn:=w.drawn+1 })(step:∀ ag a w i,i∈bZ .any bn ag->Jq ag a w->wpOp P bn Q i (fun a' w'=>Jq (ag.setIfInBounds i true) a' w') a w)(um:∀ ag a w,bZ .any bn ag=[]->Jq ag a w->Q .normal a w):(Code.region id bn true).wp P Q a w:=by
 refine wp_region_any hm (Zi Jq step um _ _ a _ ?_ (by simp) start)
 unfold unl
 exact Nat.le_trans (List.length_filter_le _ _) (by simp)
end
theorem Ey(a:Go.Act)(R:Go.Act->Prop)(h:R a->G)(t:R a):G:=h t
def Ij(f:Fr)(p c n:Int):Fr:={ f with p:=p,u:=c,l:=n }
def Ec(f:Fr)(e n:Int):Fr:={ f with e:=e,l:=n }
def Gm(M:Mm)(f:Fr):Fr:=if D6 M (bkN M f)=-1 then toF f 1 else f
def Ut(M:Mm)(f:Fr):Fr:=if Fe M f then toF f (if lkK (Aa M (f.u - 1)) f then 4 else 3) else Ec f 5 5
def Qs(M:Mm)(f:Fr):Fr:=if Fe M f then Ij f f.u (Aa M (f.u - 1)).next 2 else Ec f 8 5
def Qj(M:Mm)(f:Fr):Fr:=if Fe M f then { f with h:=f.u - 1,e:=0,l:=5 } else Ec f 8 5
def H9(M:Mm)(f:Fr):Mm:=if Fe M f then Ir M (bkN M f) f.p (f.u - 1) else M
def U8(M:Mm)(f:Fr):Mm:=if Dp M f.h then Ff M f.h else M
def drF(M:Mm)(f:Fr):Fr :=
 if f.l=0 then Gm M f else if f.l=1 then Ij f 0 (Bq M (bkN M f)) 2 else if f.l=2 then Ut M f else if f.l=3 then Qs M f
 else if f.l=4 then Qj M f else if f.l=5 then toF f 6 else if f.l=6 then Ak { f with h:=-1 } f.e else Ec f 8 5
def drM(t:Int)(M:Mm)(f:Fr):Mm :=
 if f.l=0 then Fq M f t else if f.l=4 then H9 M f else if f.l=5 then Fv M f t else if f.l=6 then U8 M f else M
theorem drF0(h:f.l=0):drF M f=Gm M f:=by unfold drF;rw[af h]
theorem drF1(h:f.l=1):drF M f=Ij f 0 (Bq M (bkN M f)) 2:=by unfold drF;rw[ae (by omega),af h]
theorem drF2(h:f.l=2):drF M f=Ut M f:=by unfold drF;rw[ae (by omega),ae (by omega),af h]
theorem drF3(h:f.l=3):drF M f=Qs M f:=by unfold drF;rw[ae (by omega),ae (by omega),ae (by omega),af h]
theorem drF4(h:f.l=4):drF M f=Qj M f:=by unfold drF;rw[ae (by omega),ae (by omega),ae (by omega),ae (by omega),af h]
theorem drF5(h:f.l=5):drF M f=toF f 6:=by unfold drF;rw[ae (by omega),ae (by omega),ae (by omega),ae (by omega),ae (by omega),af h]
theorem drF6(h:f.l=6):drF M f=Ak { f with h:=-1 } f.e:=by unfold drF;rw[ae (by omega),ae (by omega),ae (by omega),ae (by omega),ae (by omega),ae (by omega),af h]
theorem drF7(h:7<=f.l):drF M f=Ec f 8 5:=by unfold drF;rw[ae (by omega),ae (by omega),ae (by omega),ae (by omega),ae (by omega),ae (by omega),ae (by omega)]
theorem drM0(h:f.l=0):drM t M f=Fq M f t:=by unfold drM;rw[af h]
theorem drM4(h:f.l=4):drM t M f=H9 M f:=by unfold drM;rw[ae (by omega),af h]
theorem drM5(h:f.l=5):drM t M f=Fv M f t:=by unfold drM;rw[ae (by omega),ae (by omega),af h]
theorem drM6(h:f.l=6):drM t M f=U8 M f:=by unfold drM;rw[ae (by omega),ae (by omega),ae (by omega),af h]
theorem Ja(h:f.l≠0/\f.l≠4/\f.l≠5/\f.l≠6):drM t M f=M:=by unfold drM;rw[ae h.1,ae h.2.1,ae h.2.2.1,ae h.2.2.2]
theorem drF_c(M:Mm)(f:Fr):(drF M f).c=f.c:=by
 unfold drF Gm Ut Qs Qj
 repeat' split
 all_goals rfl
theorem a9o(M:Mm)(f:Fr):(drF M f).t=f.t:=by
 unfold drF Gm Ut Qs Qj
 repeat' split
 all_goals rfl
theorem a9v(l:List Sl)(j k:Nat)(x:Sl):(l.set j x).getD k sl0=if j=k/\j<l.length then x else l.getD k sl0:=by
 rw[List.getD_eq_getElem?_getD,List.getD_eq_getElem?_getD,List.getElem?_set]
 by_cases e:j=k
 ·subst e
  by_cases h:j<l.length
  ·rw[af rfl,af h,af ⟨rfl,h⟩];rfl
  ·rw[af rfl,ae h,ae (fun h'=>h h'.2),List.getElem?_eq_none (by omega)]
 ·rw[ae e,ae (fun h=>e h.1)]
def Ob(M:Mm)(f:Fr):List (Int × Int):=if f.t.length<100 then f.t ++ [keyAt M (f.u - 1)] else f.t
def F6(M:Mm)(f:Fr):Fr :=
 if Fe M f then (if f.c.k=5 then { f with t:=Ob M f,l:=3 } else if M.w<(Aa M (f.u - 1)).unt then toF f 3 else toF f 4) else toF f 6
def Lc(M:Mm)(f:Fr):Fr:=if Fe M f then Ij f f.u (Aa M (f.u - 1)).next 2 else toF f 6
def Mc(M:Mm)(f:Fr):Fr:=if Fe M f then { f with h:=f.u - 1,u:=(Aa M (f.u - 1)).next,l:=5 } else toF f 6
def Oj(M:Mm)(f:Fr):Fr:=if Dp M f.h then { f with h:=-1,n:=if f.n<1000000 then f.n+1 else f.n,l:=2 } else toF f 6
def swF(M:Mm)(f:Fr):Fr :=
 if f.l=0 then Gm M f else if f.l=1 then Ij f 0 (Bq M (bkN M f)) 2 else if f.l=2 then F6 M f else if f.l=3 then Lc M f
 else if f.l=4 then Mc M f else if f.l=5 then Oj M f else if f.l=6 then Ak f 0 else toF f 6
def swM(t:Int)(M:Mm)(f:Fr):Mm :=
 if f.l=0 then Fq M f t else if f.l=4 then H9 M f else if f.l=5 then U8 M f else if f.l=6 then Fv M f t else M
theorem swF0(h:f.l=0):swF M f=Gm M f:=by unfold swF;rw[af h]
theorem swF1(h:f.l=1):swF M f=Ij f 0 (Bq M (bkN M f)) 2:=by unfold swF;rw[ae (by omega),af h]
theorem b4r(h:f.l=2):swF M f=F6 M f:=by unfold swF;rw[ae (by omega),ae (by omega),af h]
theorem swF3(h:f.l=3):swF M f=Lc M f:=by unfold swF;rw[ae (by omega),ae (by omega),ae (by omega),af h]
theorem swF4(h:f.l=4):swF M f=Mc M f:=by unfold swF;rw[ae (by omega),ae (by omega),ae (by omega),ae (by omega),af h]
theorem swF5(h:f.l=5):swF M f=Oj M f:=by unfold swF;rw[ae (by omega),ae (by omega),ae (by omega),ae (by omega),ae (by omega),af h]
theorem swF6(h:f.l=6):swF M f=Ak f 0:=by unfold swF;rw[ae (by omega),ae (by omega),ae (by omega),ae (by omega),ae (by omega),ae (by omega),af h]
theorem swF7(h:7<=f.l):swF M f=toF f 6:=by unfold swF;rw[ae (by omega),ae (by omega),ae (by omega),ae (by omega),ae (by omega),ae (by omega),ae (by omega)]
theorem swM0(h:f.l=0):swM t M f=Fq M f t:=by unfold swM;rw[af h]
theorem swM4(h:f.l=4):swM t M f=H9 M f:=by unfold swM;rw[ae (by omega),af h]
theorem swM5(h:f.l=5):swM t M f=U8 M f:=by unfold swM;rw[ae (by omega),ae (by omega),af h]
theorem swM6(h:f.l=6):swM t M f=Fv M f t:=by unfold swM;rw[ae (by omega),ae (by omega),ae (by omega),af h]
theorem Ip(h:f.l≠0/\f.l≠4/\f.l≠5/\f.l≠6):swM t M f=M:=by unfold swM;rw[ae h.1,ae h.2.1,ae h.2.2.1,ae h.2.2.2]
theorem swF_c(M:Mm)(f:Fr):(swF M f).c=f.c:=by
 unfold swF Gm F6 Lc Mc Oj
 repeat' split
 all_goals rfl
theorem b2i(M:Mm)(f:Fr):(swF M f).t=f.t\/(f.c.k=5/\f.t.length<100/\(swF M f).t=f.t ++ [keyAt M (f.u - 1)]):=by
 unfold swF Gm F6 Lc Mc Oj
 repeat' split
 all_goals first
  | exact .inl rfl
  | skip
 all_goals
  show Ob M f=f.t\/_
  unfold Ob
  split
  ·exact .inr ⟨by assumption,by assumption,rfl⟩
  ·exact .inl rfl
end Go.Proofs.YthhgoenomehobaaGreat.mm
