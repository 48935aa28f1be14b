/- Parts. -/
import Derived.Test.YthhgoenomehobaaGreatP09
import Derived.Test.YthhgoenomehobaaGreatP11
namespace Go.Proofs.YthhgoenomehobaaGreat.mm
open Nat renaming le_refl → aC
open RowKit.Below renaming refl → dK, setCell → gQ
open Tryz
set_option maxRecDepth 100000
set_option linter.unusedVariables false
open Value renaming int → O, slice → Y
open IntKind renaming i64 → J
open Tryz renaming prog → Pg
open Go renaming World → Wq
open ChangeShapes WideShapes ChangeAt RowKit Joins Maps
set_option maxHeartbeats 0
variable (p:Int × Int)(f:Fr)(e0:Int)(ao:Option Addr)(ad:Addr)(bg:Nat)(l:List (Int × Int))(i q:Nat)(aS aK:Option Addr)(cK:Nat)(aH aF aL:Option Addr)(nS nH nF nL cS cH cF cL:Nat)(je:Int)(c:Cl)(a b:Int)(n:Nat)(w:Wq)
structure Az(w:Wq)(ao:Option Addr)(bg:Nat)(l:List (Int × Int)):Prop where
 le:l.length<=bg
 max:l.length*16<=140737488351232
 nil:ao=none->bg=0
 at_:l.length=0\/∃ b o,ao=some ⟨b,o,none⟩/\∀ i (h:i<l.length),w.cell? ⟨b,o+i*2,none⟩=some (O J l[i].1)/\w.cell? ⟨b,o+i*2+1,none⟩=some (O J l[i].2)
theorem Az.below{w w':Wq}{ao:Option Addr}{bg:Nat}{l:List (Int × Int)}(r:Az w ao bg l)(hb:Below w.heap.size w w'):Az w' ao bg l:=by
 refine⟨r.le,r.max,r.nil,?_⟩
 rcases r.at_ with h|⟨b,o,h,hc⟩
 ·exact .inl h
 ·refine .inr ⟨b,o,h,fun i hi=>?_⟩
  obtain⟨c0,c1⟩:=hc i hi
  have lt:=cell_lt c0
  obtain⟨q,_⟩:=Ce hb
  exact⟨(q _ _ lt).trans c0,(q _ _ lt).trans c1⟩
theorem Nh:Az w none 0 []:=⟨by decide,by decide,fun _=>rfl,.inl rfl⟩
def G7(l:List (Int × Int)):List Value:=l.flatMap fun p=>[O J p.1,O J p.2]
theorem Yn:G7 (p :: l)=[O J p.1,O J p.2] ++ G7 l:=by simp[G7]
theorem Nc:(G7 l).length=l.length*2:=by
 induction l with
 | nil=>rfl
 | cons s l ih=>rw[Yn,List.length_append,ih];simp;omega
theorem a0v(h:i<l.length)(hq:q<2):(G7 l)[i*2+q]?=([O J l[i].1,O J l[i].2]:List Value)[q]?:=by
 induction l generalizing i with
 | nil=>simp at h
 | cons s l ih =>
  rw[Yn]
  match i with
  | 0 =>
   rw[List.getElem?_append_left (by simp;omega)]
   simp
  | i+1 =>
   rw[List.getElem?_append_right (by simp;omega)]
   rw[show ([O J s.1,O J s.2]:List Value).length=2 from rfl,show (i+1)*2+q - 2=i*2+q by omega,ih i (by simpa using h)]
   simp
theorem X3:∀ u∈G7 l,u.oneCell'=true:=by
 intro u hu
 simp only[G7,List.mem_flatMap,List.mem_cons,List.not_mem_nil,or_false] at hu
 obtain⟨s,_,h|h⟩:=hu <;> (subst h;rfl)
theorem Az.src{w:Wq}{ao:Option Addr}{bg:Nat}{l:List (Int × Int)}(r:Az w ao bg l):∀ ad,ao=some ad->∀ j u,(G7 l)[j]?=some u->w.cell? (ad.add j)=some u:=by
 rintro ad rfl j u hu
 have hj:j<l.length*2:=by
  rw[<- Nc]
  exact(List.getElem?_eq_some_iff.1 hu).1
 rcases r.at_ with h0|⟨b,o,e,hc⟩
 ·omega
 cases e
 have hi:j / 2<l.length:=by omega
 have e2:j / 2*2+j % 2=j:=by omega
 have hq:j % 2<2:=by omega
 obtain⟨c0,c1⟩:=hc (j / 2) hi
 rw[<- e2,a0v l _ _ hi hq] at hu
 rw[Addr.add_lit,<- e2]
 generalize j / 2=i at *
 generalize j % 2=q at *
 rw[<- Nat.add_assoc]
 match q,hq with
 | 0,_=>simp at hu;subst hu;exact c0
 | 1,_=>simp at hu;subst hu;exact c1
theorem Az.own{w:Wq}{lo n bg:Nat}{ao:Option Addr}{l:List (Int × Int)}(h:w.ownsRow lo 30 2 (Y ao n bg) n (G7 l))(hm:l.length*16<=140737488351232):Az w ao bg l:=by
 have hl:=h.1
 rw[Nc] at hl
 have hn:l.length=n:=by omega
 subst hn
 rcases h.2 with ⟨hv,h0⟩|⟨g,VP,sU,hv,hg,hb,hc,-,hs,ht⟩
 ·injection hv with h1 _ h3
  subst h1 h3
  exact⟨by omega,hm,fun _=>rfl,.inl h0⟩
 ·injection hv with h1 _ h3
  subst h1 h3
  refine⟨hc,hm,(fun h=>by cases h),.inr ⟨g,0,rfl,fun i hi=>?_⟩⟩
  have e:∀ q,q<2->w.cell? ⟨g,0+i*2+q,none⟩=([O J l[i].1,O J l[i].2]:List Value)[q]?:=fun q hq=>by
   rw[Nat.zero_add,h.cellAt _ (by omega),a0v l i q hi hq]
  exact⟨e 0 (by omega),e 1 (by omega)⟩
theorem Az.hi{w w':Wq}{ao:Option Addr}{bg lo:Nat}{l:List (Int × Int)}(r:Az w ao bg l)(hi:∀ ad,ao=some ad->lo<=ad.block)(hk:∀ k,lo<=k->w'.heap[k]?=w.heap[k]?):Az w' ao bg l:=by
 refine⟨r.le,r.max,r.nil,?_⟩
 rcases r.at_ with h|⟨b,o,h,hc⟩
 ·exact .inl h
 ·refine .inr ⟨b,o,h,fun i uN=>?_⟩
  have hb:=hk b (hi _ h)
  rw[World.cell?_of_block (a:=⟨b,o+i*2,none⟩) hb,World.cell?_of_block (a:=⟨b,o+i*2+1,none⟩) hb]
  exact hc i uN
theorem iK:(Pg.info? 30).map (fun i=>(i.zero,i.size,i.bytes))=some (some (.agg #[O J 0,O J 0]),2,16):=by kernel_rfl
theorem Xh(r:Az w (some ad) bg l) :
  Calls Pg 104 #[Y (some ad) l.length bg] w fun e w'=>e=.returned (Y (some ⟨w.heap.size,0,none⟩) l.length l.length)/\w'.ownsRow w.heap.size 30 2 (Y (some ⟨w.heap.size,0,none⟩) l.length l.length) l.length (G7 l)/\Below w.heap.size w w':=by
 obtain⟨i0,hi,ng,qj,pq⟩:=info_parts iK
 have m1:=r.max
 have m2:=r.le
 have HS:Qi _:=r.src
 have HN:Qi _:=r.nil
 clear r
 have q49:∀ (w:Wq) (a:Option Addr) (n c:Nat),(binOp .eql 45 (Y a n c) (Y none 0 0)).run Pg w=.ok (.bool a.isNone) w:=fun w a n c=>Lib.run_eql_slice_nil w _ _ a n c 0 0 underlying45
 go_enter func104,ntmps104
 go_wp2_with (first
  | (at_make;refine wpList_make_own _ rfl _ _ 45 rfl w.heap.size 30 i0 (.agg #[O J 0,O J 0]) 2 underlying45 hi ng qj .i64 .i64 _ l.length rfl rfl rfl (by rw[pq];omega) (by unfold maxLen;omega) (aC _) ?_;intro w1 jv qL)
  | (at_builtin;refine wpList_append_fits_any _ rfl _ _ 45 rfl w.heap.size 30 i0 2 underlying45 hi qj w.heap.size 0 l.length _ rfl jv (some ad) l.length bg (G7 l) rfl (Nc l) (fun h=>by have:=HN.o h;omega) (fun ad h j u hj=>qL.cell (HS.o ad h j u hj) (by intro hh;cases hh)) (X3 l) (by omega) ?_;intro w2 lu qf))
 go_ret
 simp only[Nat.zero_add,List.nil_append] at lu
 refine⟨by simp,lu,?_⟩
 have:=((dK w.heap.size w).grown qL (aC _) (fun k h=>by cases h))
 exact this.grown qf qL.size (fun k h=>by cases h;exact aC _)
theorem Xg:Calls Pg 104 #[Y none 0 0] w fun e w'=>e=.returned (Y none 0 0)/\w=w':=by
 have q49:∀ (w:Wq) (a:Option Addr) (n c:Nat),(binOp .eql 45 (Y a n c) (Y none 0 0)).run Pg w=.ok (.bool a.isNone) w:=fun w a n c=>Lib.run_eql_slice_nil w _ _ a n c 0 0 underlying45
 go_enter func104,ntmps104
 go_wp2
 go_ret
 exact⟨rfl,rfl⟩
theorem a7i(r:Az w ao bg l) :
  Calls Pg 104 #[Y ao l.length bg] w fun e w'=>∃ a c,e=.returned (Y a l.length c)/\Az w' a c l/\(∀ ad,a=some ad->w.heap.size<=ad.block)/\Below w.heap.size w w':=by
 cases ao with
 | some ad =>
  refine(Xh ad bg l w r).mono ?_
  rintro e w' ⟨rfl,h1,h2⟩
  exact⟨_,_,rfl,Az.own h1 r.max,b3m (aC _),h2⟩
 | none =>
  have hc:=r.nil rfl
  have hl:l=[]:=List.eq_nil_of_length_eq_zero (by have:=r.le;omega)
  subst hc hl
  refine(Xg w).mono ?_
  rintro e w' ⟨rfl,rfl⟩
  exact⟨_,_,rfl,Nh _,(fun _ h=>by cases h),dK _ _⟩
theorem Uj:Calls Pg 144 #[Gj c] w fun e w'=>e=.returned (.agg #[O J (Df c).c.k,O J (Df c).c.a,O J (Df c).c.b,O J (Df c).c.t,O J (Df c).c.q,O J (Df c).c.h,O J (Df c).l,O J (Df c).u,O J (Df c).p,O J (Df c).h,O J (Df c).n,Y none (Df c).t.length 0,.bool (Df c).d,O J (Df c).e])/\Below w.heap.size w w':=by
 unfold Gj
 go_enter func144,ntmps144
 go_wp2
 refine bodyPost_ret (v:=.agg #[O J (Df c).c.k,O J (Df c).c.a,O J (Df c).c.b,O J (Df c).c.t,O J (Df c).c.q,O J (Df c).c.h,O J (Df c).l,O J (Df c).u,O J (Df c).p,O J (Df c).h,O J (Df c).n,Y none (Df c).t.length 0,.bool (Df c).d,O J (Df c).e]) (by simp[results,results144,go_sem,Df]) rfl ⟨rfl,?_⟩
 repeat (first|exact dK _ _|refine Below.alloc ?_ (by simp <;> omega) _|refine gQ ?_ (by simp <;> omega) _)
theorem a9t(r:Az w aK cK f.t) :
  Calls Pg 199 #[Ai f aK cK,O J e0] w fun e w'=>∃ a c,e=.returned (.agg #[O J (Ak f e0).c.k,O J (Ak f e0).c.a,O J (Ak f e0).c.b,O J (Ak f e0).c.t,O J (Ak f e0).c.q,O J (Ak f e0).c.h,O J (Ak f e0).l,O J (Ak f e0).u,O J (Ak f e0).p,O J (Ak f e0).h,O J (Ak f e0).n,Y a (Ak f e0).t.length c,.bool (Ak f e0).d,O J (Ak f e0).e])/\Az w' a c f.t/\(∀ ad,a=some ad->w.heap.size<=ad.block)/\Below w.heap.size w w':=by
 unfold Ai
 obtain⟨of,df⟩:=frObj f aK cK
 obtain⟨oz,bi⟩:∃ o:Obj,o=.cells #[O J 0,O J 0,O J 0,O J 0,O J 0,O J 0,O J 0,O J 0,O J 0,O J 0,O J 0,Y none 0 0,.bool false,O J 0] 47:=⟨_,rfl⟩
 have mr:Qi (Env w ((w.alloc of).alloc oz) _ []):=((⟨dK _ _,(fun p hp=>by cases hp),(fun p hp=>by cases hp)⟩:Env w w [] []).alloc of).alloc oz
 rw[show (w.alloc of).heap.size=w.heap.size+1 by simp] at mr
 have HR:Qi (Az w aK cK f.t):=r
 clear r
 go_enter func199,ntmps199
 go_wp2_with fail
 rw[<- df,<- bi]
 generalize (w.alloc of).alloc oz=W0 at *
 subst df bi
 refine(a7i aK cK f.t W0 (HR.o.below mr.o.bl)).mono ?_
 rintro e w1 ⟨a1,c1,rfl,IV,CP,bu⟩
 have gp:Qi _:=mr.o.below bu
 have ww:Qi (Az w1 a1 c1 f.t):=IV
 have KP:Qi (∀ ad,a1=some ad->w.heap.size+2<=ad.block):=fun ad h=>Nat.le_trans (mr.o.lt (.head _)) (CP ad h)
 clear mr bu IV CP
 have GI:=gp.o.box _ (.head _)
 have QR:=gp.o.box _ (.tail _ (.head _))
 obtain⟨f0,f1,f2,f3,f4,f5,f6,f7,f8,f9,ay,au,aj,ak,ff,fs⟩:=A8 QR
 obtain⟨g0,g1,g2,g3,g4,g5,g6,g7,g8,g9,qm,pz,qi,qw,gf,gs⟩:=A8 GI
 have iw:w.heap.size+1≠w.heap.size:=by omega
 have xm:Qi (Below w.heap.size w w1):=gp.o.bl
 clear GI QR gp
 go_wp2
 refine bodyPost_ret (v:=.agg #[O J (Ak f e0).c.k,O J (Ak f e0).c.a,O J (Ak f e0).c.b,O J (Ak f e0).c.t,O J (Ak f e0).c.q,O J (Ak f e0).c.h,O J (Ak f e0).l,O J (Ak f e0).u,O J (Ak f e0).p,O J (Ak f e0).h,O J (Ak f e0).n,Y a1 (Ak f e0).t.length c1,.bool (Ak f e0).d,O J (Ak f e0).e]) (by simp[results,results199,go_sem,Ak,g0,g1,g2,g3,g4,g5,g6,g7,g8,g9,qm,pz,qi,qw]) rfl ⟨a1,c1,rfl,ww.o.hi KP.o (fun k hk=>?_),(fun ad h=>Nat.le_trans (Nat.le_add_right _ 2) (KP.o ad h)),?_⟩
 ·repeat rw[Below.heap_setCell _ _ _ _ (by dsimp only;omega)]
 ·iterate 17 (refine gQ ?_ (by dsimp only;omega) _)
  exact xm.o
theorem a0n(hk:Ei a b=true)(hn:n<1\/4<n)(hm:n<=9223372036854775807) :
  Calls Pg 49 #[.agg #[O J a,O J b],O J n] w fun e w'=>e=.returned (.tuple #[O J 0,O J 3])/\Below w.heap.size w w':=by
 have HK:Qi (Ei a b=true):=hk
 clear hk
 rcases hn with h|h
 ·obtain rfl:n=0:=by omega
  go_enter func49,ntmps49
  go_wp2_with (first|(go_at_call 96;refine(P6 _ _ _ HK.o).mono ?_;rintro e w1 ⟨rfl,bu⟩))
  go_ret2
  exact⟨rfl,((dK _ _).alloc (aC _) _).trans (bu.mono (by simp))⟩
 ·have h1:(1:Int)<=n:=by omega
  have h4:(4:Int)<n:=by omega
  go_enter func49,ntmps49
  go_wp2_with (first|(go_at_call 96;refine(P6 _ _ _ HK.o).mono ?_;rintro e w1 ⟨rfl,bu⟩))
  go_ret2
  exact⟨rfl,((dK _ _).alloc (aC _) _).trans (bu.mono (by simp))⟩
def bkK(a b:Int)(n:Nat):Int:=if Ei a b then (if 1<=n/\n<=4 then Eh a b n else 0) else 0
theorem a2x(hm:n<=9223372036854775807) :
  Calls Pg 49 #[.agg #[O J a,O J b],O J n] w fun e w'=>∃ x:Int,e=.returned (.tuple #[O J (bkK a b n),O J x])/\Below w.heap.size w w':=by
 cases hk:Ei a b
 ·refine(a2y a b n w hk).mono ?_
  rintro e w1 ⟨rfl,hb⟩
  exact⟨3,by unfold bkK;rw[hk];rfl,hb⟩
 ·by_cases hn:1<=n/\n<=4
  ·refine(Yc a b n w hk hn.1 hn.2).mono ?_
   rintro e w1 ⟨rfl,hb⟩
   exact⟨0,by unfold bkK;rw[hk,af rfl,af hn],hb⟩
  ·refine(a0n a b n w hk (by omega) hm).mono ?_
   rintro e w1 ⟨rfl,hb⟩
   exact⟨3,by unfold bkK;rw[hk,af rfl,ae hn],hb⟩
theorem Rz{nH:Nat}{c:Cl}(h:c.k=4\/c.k=5):Fz nH c=c.q:=by unfold Fz;rw[af h]
theorem a0m{nH:Nat}{c:Cl}(h:¬ (c.k=4\/c.k=5)):Fz nH c=bkK c.a c.b nH:=by unfold Fz bkK;rw[ae h]
theorem G8(hh:nH<=9223372036854775807) :
  Calls Pg 34 #[.agg #[Y aS nS cS,Y aH nH cH,Y aF nF cF,Y aL nL cL,O J je],Gj c] w fun e w'=>e=.returned (O J (Fz nH c))/\Below w.heap.size w w':=by
 unfold Gj
 have b0:Below w.heap.size w ((w.alloc (.cells #[Y aS nS cS,Y aH nH cH,Y aF nF cF,Y aL nL cL,O J je] 25)).alloc (.cells #[O J c.k,O J c.a,O J c.b,O J c.t,O J c.q,O J c.h] 32)):=below_alloc2 w _ _
 have hc:=fun W=>a2x c.a c.b nH W hh
 obtain⟨E0,lh⟩:∃ x,x=Fz nH c:=⟨_,rfl⟩
 rw[<- lh]
 have mr:Qi (E0=Fz nH c):=lh
 clear lh
 by_cases h4:c.k=4
 ·have HV:Qi (E0=c.q):=mr.o.trans (Rz (.inl h4))
  rw[h4] at b0 ⊢
  go_enter func34,ntmps34
  go_wp2
  go_ret
  exact⟨by rw[HV.o];rfl,b0⟩
 by_cases h5:c.k=5
 ·have HV:Qi (E0=c.q):=mr.o.trans (Rz (.inr h5))
  rw[h5] at b0 ⊢
  go_enter func34,ntmps34
  go_wp2
  go_ret
  exact⟨by rw[HV.o];rfl,b0⟩
 have e4:(c.k==4)=false:=by rw[beq_eq_false_iff_ne];exact h4
 have e5:(c.k==5)=false:=by rw[beq_eq_false_iff_ne];exact h5
 have HV:Qi (E0=bkK c.a c.b nH):=mr.o.trans (a0m (by omega))
 generalize bkK c.a c.b nH=bv at *
 clear h4 h5 mr
 go_enter func34,ntmps34
 go_wp2_with (go_at_call 49;refine(hc _).mono ?_;rintro e w1 ⟨x1,rfl,bu⟩)
 go_ret
 exact⟨by rw[HV.o];rfl,b0.trans (bu.mono b0.size)⟩
theorem Ib(hh:nH<=9223372036854775807) :
  Calls Pg 113 #[.agg #[Y aS nS cS,Y aH nH cH,Y aF nF cF,Y aL nL cL,O J je],Gj c] w fun e w'=>e=.returned (O J (Fz nH c))/\Below w.heap.size w w':=by
 unfold Gj
 obtain⟨om,vM⟩:∃ o:Obj,o=.cells #[Y aS nS cS,Y aH nH cH,Y aF nF cF,Y aL nL cL,O J je] 25:=⟨_,rfl⟩
 obtain⟨oc,IX⟩:∃ o:Obj,o=.cells #[O J c.k,O J c.a,O J c.b,O J c.t,O J c.q,O J c.h] 32:=⟨_,rfl⟩
 have HE:Qi (Env w ((w.alloc om).alloc oc) _ []):=((⟨dK _ _,(fun p hp=>by cases hp),(fun p hp=>by cases hp)⟩:Env w w [] []).alloc om).alloc oc
 rw[show (w.alloc om).heap.size=w.heap.size+1 by simp] at HE
 obtain⟨E0,lh⟩:∃ x,x=Fz nH c:=⟨_,rfl⟩
 rw[<- lh]
 have mr:Qi (E0=Fz nH c):=lh
 clear lh
 by_cases h4:c.k=4
 ·have HV:Qi (E0=c.q):=mr.o.trans (Rz (.inl h4))
  subst vM IX
  rw[h4] at HE ⊢
  go_enter func113,ntmps113
  go_wp2
  go_ret
  exact⟨by rw[HV.o];rfl,HE.o.bl⟩
 by_cases h5:c.k=5
 ·have HV:Qi (E0=c.q):=mr.o.trans (Rz (.inr h5))
  subst vM IX
  rw[h5] at HE ⊢
  go_enter func113,ntmps113
  go_wp2
  go_ret
  exact⟨by rw[HV.o];rfl,HE.o.bl⟩
 have e4:(c.k==4)=false:=by rw[beq_eq_false_iff_ne];exact h4
 have e5:(c.k==5)=false:=by rw[beq_eq_false_iff_ne];exact h5
 have HV:Qi (E0=bkK c.a c.b nH):=mr.o.trans (a0m (by omega))
 clear h4 h5 mr
 have hk:∀ W:Wq,Calls Pg 109 #[.agg #[O J c.a,O J c.b]] W fun e w'=>e=.returned (.bool (Ei c.a c.b))/\Below W.heap.size W w':=fun W=>Ug c.a c.b W
 cases hK:Ei c.a c.b
 ·rw[hK] at hk
  have lq:Qi (E0=0):=HV.o.trans (by unfold bkK;rw[hK];rfl)
  go_enter func113,ntmps113
  go_wp2_with fail
  rw[<- vM,<- IX]
  generalize (w.alloc om).alloc oc=W0 at *
  subst vM IX
  refine(hk W0).mono ?_
  rintro e w1 ⟨rfl,bu⟩
  have gp:Qi _:=HE.o.below bu
  clear HE bu
  go_wp2
  go_ret
  exact⟨by rw[lq.o];rfl,gp.o.bl⟩
 rw[hK] at hk
 go_enter func113,ntmps113
 go_wp2_with fail
 rw[<- vM,<- IX]
 generalize (w.alloc om).alloc oc=W0 at *
 subst vM IX
 refine(hk W0).mono ?_
 rintro e w1 ⟨rfl,bu⟩
 have gp:Qi _:=HE.o.below bu
 clear HE bu
 obtain⟨q0,q1,q2,q3,q4,-,-,-,-,-,qs⟩:=Aj (gp.o.box _ (.tail _ (.head _)))
 obtain⟨c0,c1,c2,c3,c4,c5,cs⟩:=b5g (gp.o.box _ (.head _))
 by_cases rE:nH<1
 ·obtain rfl:nH=0:=by omega
  have lq:Qi (E0=0):=HV.o.trans (by unfold bkK;rw[hK,af rfl,ae (by omega)])
  go_wp2
  go_ret
  exact⟨by rw[lq.o];rfl,gp.o.bl⟩
 by_cases hn4:4<nH
 ·have i1:(1:Int)<=nH:=by omega
  have i4:(4:Int)<nH:=by omega
  have lq:Qi (E0=0):=HV.o.trans (by unfold bkK;rw[hK,af rfl,ae (by omega)])
  go_wp2
  go_ret
  exact⟨by rw[lq.o];rfl,gp.o.bl⟩
 have i1:(1:Int)<=nH:=by omega
 have i4:(nH:Int)<=4:=by omega
 have lq:Qi (E0=Eh c.a c.b nH):=HV.o.trans (by unfold bkK;rw[hK,af rfl,af (by omega)])
 have hc:=fun W=>S9 c.a c.b nH W hK (by omega) (by omega)
 generalize Eh c.a c.b nH=bv at *
 go_wp2_with (go_at_call 134;refine(hc _).mono ?_;rintro e w2 ⟨rfl,dm⟩)
 go_ret
 exact⟨by rw[lq.o];rfl,gp.o.bl.trans (dm.mono gp.o.bl.size)⟩
end Go.Proofs.YthhgoenomehobaaGreat.mm
