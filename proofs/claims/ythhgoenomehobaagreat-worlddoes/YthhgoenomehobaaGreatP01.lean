/- Parts. -/
import Derived.Test.YthhgoenomehobaaGreatChecked
import Derived.WalkKit
import Derived.ProofKit
import Derived.OpenShut
import Derived.WalkLawsBesides
import Derived.WalkSpells
namespace Go.Proofs.YthhgoenomehobaaGreat.mm
set_option maxRecDepth 100000
set_option linter.unusedVariables false
open Go.Value renaming int → O, slice → Y
open Go.IntKind renaming i64 → J
open Go.Proofs.Tryz renaming prog → Pg
open Go renaming World → Wq
set_option maxHeartbeats 1600000
section
structure Sl where
 refs:Int
 a:Int
 b:Int
 unt:Int
 inn:Bool
 next:Int
structure Mm where
 slots:List Sl
 heads:List Int
 free:List Int
 locks:List Int
 now:Int
def sl0:Sl:=⟨0,0,0,0,false,0⟩
def m0:Mm:=⟨[],[],[],[],0⟩
def a2e(x y:Sl):Bool:=x.refs==y.refs && (x.a==y.a && (x.b==y.b && (x.unt==y.unt && (x.inn==y.inn && x.next==y.next))))
theorem Vu(x y:Sl):a2e x y=true ↔ x=y:=by
 cases x;cases y;simp[a2e]
theorem a6b(x:Sl):a2e x x=true:=(Vu x x).2 rfl
def inB(x lo hi:Int):Bool:=decide (lo<=x) && decide (x<=hi)
theorem Aj(x lo hi:Int):inB x lo hi=true ↔ lo<=x/\x<=hi:=by simp[inB]
def E5(a b:Int):Bool:=inB a 0 15 && inB b 0 15
theorem Jh(a b:Int):E5 a b=true ↔ (0<=a/\a<=15)/\(0<=b/\b<=15):=by simp[E5,inB]
def Cb(nh ns:Nat)(s:Sl):Int :=
 if inB s.refs 0 1000 && inB s.unt 0 2000000 && E5 s.a s.b then (if inB s.next (-(nh:Int)) ns then 0 else 5) else 3
def Bz(nh ns:Nat)(p:Int × Int):Int :=
 if p.1≠0/\inB p.1 (-(nh:Int)) ns then (if inB p.2 (-1) 4 then 0 else 3) else 5
def Ah{α:Type}(f:α->Int):List α->Int
 | []=>0
 | x :: l=>if f x≠0 then f x else Ah f l
theorem Jt{α:Type}(f:α->Int)(l:List α)(k:Nat)(h:k<l.length) :
  Ah f (l.drop k)=if f l[k] ≠ 0 then f l[k] else Ah f (l.drop (k+1)):=by
 rw[List.drop_eq_getElem_cons h];rfl
theorem Ig{α:Type}(f:α->Int)(l:List α)(k:Nat)(h:l.length<=k):Ah f (l.drop k)=0:=by
 rw[List.drop_of_length_le h];rfl
theorem Fv{α:Type}(f:α->Int)(l:List α):Ah f l=0 ↔ ∀ x∈l,f x=0:=by
 induction l with
 | nil=>simp[Ah]
 | cons x l ih =>
  simp only[Ah,List.mem_cons,forall_eq_or_imp]
  by_cases h:f x=0
  ·simp[h,ih]
  ·simp[h]
def hasB(l:List Int)(x:Int):Bool:=l.contains x
theorem Ny(l:List Int)(x:Int):hasB l x=true ↔ x∈l:=by simp[hasB]
theorem Vb(l:List Int)(x:Int):hasB l x=false ↔ ¬ x∈l:=by simp[hasB]
def Fz(S:List Sl)(a:Int):Bool:=decide (0<=a) && (decide (a<S.length) && decide ((S.getD a.toNat sl0).refs=0))
theorem Ih(S:List Sl)(a:Int):Fz S a=true ↔ 0<=a/\a<S.length/\(S.getD a.toNat sl0).refs=0:=by simp[Fz]
def Be(S:List Sl):List Int->List Int->Int
 | _,[]=>0
 | pre,a :: l=>if Fz S a then (if hasB pre a then 6 else Be S (pre ++ [a]) l) else 5
def Bl(F:List Int):Nat->List Sl->Int
 | _,[]=>0
 | i,s :: l=>if s.refs==0 && !hasB F (i:Int) then 4 else Bl F (i+1) l
theorem Lj(S:List Sl)(l:List Int)(k:Nat)(h:k<l.length) :
  Be S (l.take k) (l.drop k)=if Fz S l[k] then (if hasB (l.take k) l[k] then 6 else Be S (l.take (k+1)) (l.drop (k+1))) else 5:=by
 rw[List.drop_eq_getElem_cons h,List.take_succ_eq_append_getElem h];rfl
theorem Tu(S:List Sl)(l:List Int)(k:Nat)(h:l.length<=k):Be S (l.take k) (l.drop k)=0:=by
 rw[List.drop_of_length_le h];rfl
theorem Qz(F:List Int)(S:List Sl)(k:Nat)(h:k<S.length) :
  Bl F k (S.drop k)=if S[k].refs==0 && !hasB F (k:Int) then 4 else Bl F (k+1) (S.drop (k+1)):=by
 rw[List.drop_eq_getElem_cons h];rfl
theorem U2(F:List Int)(S:List Sl)(k:Nat)(h:S.length<=k):Bl F k (S.drop k)=0:=by
 rw[List.drop_of_length_le h];rfl
def chk(m:Mm):Int :=
 if 12<m.slots.length\/m.heads.length<1\/4<m.heads.length then 2
 else if m.locks.length≠m.heads.length then 4
 else if inB m.now 0 1000000=false then 3
 else if Ah (Cb m.heads.length m.slots.length) m.slots≠0 then Ah (Cb m.heads.length m.slots.length) m.slots
 else if Ah (Bz m.heads.length m.slots.length) (m.heads.zip m.locks)≠0 then Ah (Bz m.heads.length m.slots.length) (m.heads.zip m.locks)
 else if Be m.slots [] m.free≠0 then Be m.slots [] m.free
 else Bl m.free 0 m.slots
structure Ok(m:Mm):Prop where
 ns:m.slots.length<=12
 nh:1<=m.heads.length/\m.heads.length<=4
 nl:m.locks.length=m.heads.length
 now:0<=m.now/\m.now<=1000000
 slot:∀ s∈m.slots,Cb m.heads.length m.slots.length s=0
 chain:∀ p∈m.heads.zip m.locks,Bz m.heads.length m.slots.length p=0
 free:∀ a∈m.free,Fz m.slots a=true
 nodup:m.free.Nodup
 all:∀ i,i<m.slots.length->(m.slots.getD i sl0).refs=0->(i:Int)∈m.free
theorem Qs(S:List Sl)(pre l:List Int)(hp:pre.Nodup):Be S pre l=0 ↔ (∀ a∈l,Fz S a=true)/\(pre++l).Nodup:=by
 induction l generalizing pre with
 | nil=>simp[Be,hp]
 | cons a l ih =>
  simp only[Be,List.mem_cons,forall_eq_or_imp]
  by_cases h1:Fz S a=true
  ·by_cases h2:a∈pre
   ·simp[h1,h2,Ny,List.nodup_append]
    intro _ _ _ _
    exact⟨a,h2,fun h=>absurd rfl h⟩
   ·have hp':(pre ++ [a]).Nodup:=by
     rw[List.nodup_append];simp[hp]
     intro x hx e;subst e;exact h2 hx
    have:=ih (pre ++ [a]) hp'
    rw[List.append_assoc] at this
    simp only[h1,h2,Ny,if_true,if_false,true_and]
    exact this
  ·simp[h1]
theorem Rf(F:List Int)(S:List Sl)(k:Nat):Bl F k S=0 ↔ ∀ i,i<S.length->(S.getD i sl0).refs=0->((k+i:Nat):Int)∈F:=by
 induction S generalizing k with
 | nil=>simp[Bl]
 | cons s l ih =>
  simp only[Bl]
  by_cases h:s.refs==0 && !hasB F (k:Int)
  ·rw[if_pos h]
   simp only[Bool.and_eq_true,beq_iff_eq,Bool.not_eq_true'] at h
   constructor
   ·intro e;omega
   ·intro hh
    have:=hh 0 (by simp) (by simpa using h.1)
    simp only[Nat.add_zero] at this
    rw[<- Ny] at this
    rw[this] at h;simp at h
  ·rw[if_neg h,ih]
   constructor
   ·intro hh i hi hr
    match i with
    | 0 =>
     simp at hr
     simp[hr,Ny] at h
     simpa using h
    | i+1 =>
     have:=hh i (by simp at hi;omega) (by simpa using hr)
     rwa [show k+1+i=k+(i+1) by omega] at this
   ·intro hh i hi hr
    have:=hh (i+1) (by simp;omega) (by simpa using hr)
    rwa [show k+(i+1)=k+1+i by omega] at this
theorem Ku(m:Mm):chk m=0 ↔ Ok m:=by
 unfold chk
 constructor
 ·intro h
  split at h
  ·omega
  split at h
  ·omega
  split at h
  ·omega
  split at h
  ·omega
  split at h
  ·omega
  split at h
  ·omega
  rename_i h1 h2 h3 h4 h5 h6
  have h3':inB m.now 0 1000000=true:=by simpa using h3
  simp only[ne_eq,Decidable.not_not] at h4 h5 h6 h2
  have hf:=(Qs m.slots [] m.free List.nodup_nil).1 h6
  have hl:=(Rf m.free m.slots 0).1 h
  refine⟨by omega,by omega,h2,(Aj _ _ _).1 h3',(Fv _ _).1 h4,(Fv _ _).1 h5,hf.1,by simpa using hf.2,?_⟩
  intro i hi hr
  have:=hl i hi hr
  simpa using this
 ·intro h
  rw[if_neg (by have:=h.ns;have:=h.nh;omega),if_neg (by simpa using h.nl),if_neg (by rw[(Aj _ _ _).2 h.now];simp),
   if_neg (by simpa using (Fv _ _).2 h.slot),if_neg (by simpa using (Fv _ _).2 h.chain),
   if_neg (by simpa using (Qs m.slots [] m.free List.nodup_nil).2 ⟨h.free,by simpa using h.nodup⟩)]
  exact(Rf m.free m.slots 0).2 fun i hi hr=>by simpa using h.all i hi hr
def G8(m:Mm):Int:=m.free.getD (m.free.length - 1) 0
def Oa(m:Mm)(ka kb u:Int):Mm :=
 { m with slots:=m.slots.set (G8 m).toNat ⟨1,ka,kb,u,false,(m.slots.getD (G8 m).toNat sl0).next⟩,free:=m.free.take (m.free.length - 1) }
def Dy(m:Mm)(i:Int):Int:=(m.slots.getD i.toNat sl0).refs
def J9(m:Mm)(i r:Int):List Sl:=m.slots.set i.toNat { m.slots.getD i.toNat sl0 with refs:=r }
def a7s(m:Mm)(i:Int):Mm:={ m with slots:=J9 m i (Dy m i+1) }
def Ub(m:Mm)(i:Int):Mm:={ m with slots:=J9 m i (Dy m i - 1),free:=if Dy m i=1 then m.free ++ [i] else m.free }
def Dc(m:Mm)(i:Int):Bool:=inB i 0 ((m.slots.length:Int) - 1)
def Td(m:Mm)(ka kb u:Int):Int :=
 if chk m≠0 then chk m else if E5 ka kb=false then 3 else if inB u 0 2000000=false then 3 else if m.free.length=0 then 7 else 0
def Ob(m:Mm)(ka kb u:Int):Mm:=if Td m ka kb u=0 then Oa m ka kb u else m0
def Yg(m:Mm)(ka kb u:Int):Int:=if Td m ka kb u=0 then G8 m else 0
def letE(m:Mm)(i:Int):Int :=
 if chk m≠0 then chk m else if Dc m i=false then 5 else if Dy m i=0 then 8 else 0
def letM(m:Mm)(i:Int):Mm:=if letE m i=0 then Ub m i else m0
def L6(many buckets:Nat):Mm :=
 { slots:=List.replicate many sl0,heads:=(List.range buckets).map fun (b:Nat)=>-1 - (b:Int),free:=(List.range many).map fun (a:Nat)=>(many:Int) - 1 - (a:Int),locks:=List.replicate buckets (-1),now:=0 }
def Wx(many buckets:Int):Int:=if inB many 0 12 && inB buckets 1 4 then 0 else 3
end
section
open Go.ChangeShapes Go.WideShapes Go.ChangeAt Go.RowKit
theorem Bv{W w1:Wq}{n:Nat}(hb:Below n W w1):(∀ b o,b<n->w1.cell? ⟨b,o,none⟩=W.cell? ⟨b,o,none⟩)/\(∀ b o,b<n->w1.frozen? ⟨b,o,none⟩=W.frozen? ⟨b,o,none⟩) :=
 ⟨fun b o h=>hb.cell (p:=⟨b,o,none⟩) h,fun b o h=>hb.frozen (p:=⟨b,o,none⟩) h⟩
theorem cell_lt{w:Wq}{b o:Nat}{v:Value}(h:w.cell? ⟨b,o,none⟩=some v):b<w.heap.size:=by
 refine Nat.lt_of_not_le fun hh=>?_
 unfold World.cell? at h
 rw[Array.getElem?_eq_none hh] at h
 cases h
structure Cj(w:Wq)(ao:Option Addr)(cap:Nat)(l:List Int):Prop where
 le:l.length<=cap
 max:l.length*8<=140737488351232
 nil:ao=none->cap=0
 at_:l.length=0\/∃ b o,ao=some ⟨b,o,none⟩/\∀ i (h:i<l.length),w.cell? ⟨b,o+i,none⟩=some (O J l[i])
structure Ic(w:Wq)(ao:Option Addr)(cap:Nat)(l:List Sl):Prop where
 le:l.length<=cap
 max:l.length*48<=140737488351232
 nil:ao=none->cap=0
 at_:l.length=0\/∃ b o,ao=some ⟨b,o,none⟩/\∀ i (h:i<l.length),
  w.cell? ⟨b,o+i*6,none⟩=some (O J l[i].refs)/\w.cell? ⟨b,o+i*6+1,none⟩=some (O J l[i].a)/\w.cell? ⟨b,o+i*6+2,none⟩=some (O J l[i].b) /\
  w.cell? ⟨b,o+i*6+3,none⟩=some (O J l[i].unt)/\w.cell? ⟨b,o+i*6+4,none⟩=some (.bool l[i].inn)/\w.cell? ⟨b,o+i*6+5,none⟩=some (O J l[i].next)
theorem Cj.below{w w':Wq}{ao:Option Addr}{cap:Nat}{l:List Int}(r:Cj w ao cap l)(hb:Below w.heap.size w w'):Cj w' ao cap l:=by
 refine⟨r.le,r.max,r.nil,?_⟩
 rcases r.at_ with h|⟨b,o,h,hc⟩
 ·exact .inl h
 ·exact .inr ⟨b,o,h,fun i hi=>(hb.cell (p:=⟨b,o+i,none⟩) (cell_lt (hc i hi))).trans (hc i hi)⟩
theorem Ic.below{w w':Wq}{ao:Option Addr}{cap:Nat}{l:List Sl}(r:Ic w ao cap l)(hb:Below w.heap.size w w'):Ic w' ao cap l:=by
 refine⟨r.le,r.max,r.nil,?_⟩
 rcases r.at_ with h|⟨b,o,h,hc⟩
 ·exact .inl h
 ·refine .inr ⟨b,o,h,fun i hi=>?_⟩
  obtain⟨c0,c1,c2,c3,c4,c5⟩:=hc i hi
  have lt:=cell_lt c0
  obtain⟨q,_⟩:=Bv hb
  exact⟨(q _ _ lt).trans c0,(q _ _ lt).trans c1,(q _ _ lt).trans c2,(q _ _ lt).trans c3,(q _ _ lt).trans c4,(q _ _ lt).trans c5⟩
structure At(w:Wq)(aS aH aF aL:Option Addr)(cS cH cF cL:Nat)(M:Mm):Prop where
 s:Ic w aS cS M.slots
 h:Cj w aH cH M.heads
 f:Cj w aF cF M.free
 l:Cj w aL cL M.locks
theorem At.below{w w':Wq}{aS aH aF aL:Option Addr}{cS cH cF cL:Nat}{M:Mm}(r:At w aS aH aF aL cS cH cF cL M)(hb:Below w.heap.size w w'):At w' aS aH aF aL cS cH cF cL M :=
 ⟨r.s.below hb,r.h.below hb,r.f.below hb,r.l.below hb⟩
theorem A7(w:Wq)(o:Obj):Below w.heap.size w (w.alloc o):=(Below.refl _ _).alloc (Nat.le_refl _) _
theorem Eb{w wr:Wq}{v0 v1 v2 v3 v4:Value}{t:TypeId}(hb:Below (w.heap.size+1) (w.alloc (.cells #[v0,v1,v2,v3,v4] t)) wr) :
  wr.cell? ⟨w.heap.size,0,none⟩=some v0/\wr.cell? ⟨w.heap.size,1,none⟩=some v1/\wr.cell? ⟨w.heap.size,2,none⟩=some v2/\wr.cell? ⟨w.heap.size,3,none⟩=some v3/\wr.cell? ⟨w.heap.size,4,none⟩=some v4/\w.heap.size+1<=wr.heap.size:=by
 obtain⟨q,_⟩:=Bv hb
 refine⟨(q _ _ (by omega)).trans (by simp),(q _ _ (by omega)).trans (by simp),(q _ _ (by omega)).trans (by simp),(q _ _ (by omega)).trans (by simp),(q _ _ (by omega)).trans (by simp),?_⟩
 have:=hb.size
 simpa using this
theorem Bq(x lo hi:Int)(w:Wq) :
  Calls Pg 85 #[O J x,O J lo,O J hi] w fun e w'=>e=.returned (.bool (inB x lo hi))/\w=w':=by
 by_cases h:lo<=x
 ·go_enter Tryz.func85,Tryz.ntmps85
  go_wp2
  go_ret
  exact⟨by simp[inB,h],rfl⟩
 ·have h':x<lo:=by omega
  go_enter Tryz.func85,Tryz.ntmps85
  go_wp2
  go_ret
  exact⟨by simp[inB];omega,rfl⟩
theorem Ed(aS aH aF aL:Option Addr)(nS nH nF nL cS cH cF cL:Nat)(now a:Int)(w:Wq)(hn:nS<=9223372036854775807) :
  Calls Pg 111 #[.agg #[Y aS nS cS,Y aH nH cH,Y aF nF cF,Y aL nL cL,O J now],O J a] w fun e w'=>e=.returned (.bool (inB a 0 ((nS:Int) - 1)))/\Below w.heap.size w w':=by
 by_cases h:0<=a
 ·by_cases h2:a<nS
  ·go_enter Tryz.func111,Tryz.ntmps111
   go_wp2
   go_ret
   refine⟨?_,A7 _ _⟩
   rw[show inB a 0 ((nS:Int) - 1)=true from (Aj _ _ _).2 ⟨h,by omega⟩];rfl
  ·have h3:(nS:Int)<=a:=by omega
   go_enter Tryz.func111,Tryz.ntmps111
   go_wp2
   go_ret
   refine⟨?_,A7 _ _⟩
   rw[show inB a 0 ((nS:Int) - 1)=false by simp[inB];omega];rfl
 ·have h':a<0:=by omega
  go_enter Tryz.func111,Tryz.ntmps111
  go_wp2
  go_ret
  refine⟨?_,A7 _ _⟩
  rw[show inB a 0 ((nS:Int) - 1)=false by simp[inB];omega];rfl
theorem J5(aS aH aF aL:Option Addr)(nS nH nF nL cS cH cF cL:Nat)(now a:Int)(w:Wq)(hn:nS<=9223372036854775807)(hh:nH<=9223372036854775807) :
  Calls Pg 127 #[.agg #[Y aS nS cS,Y aH nH cH,Y aF nF cF,Y aL nL cL,O J now],O J a] w fun e w'=>e=.returned (.bool (inB a (-(nH:Int)) nS))/\Below w.heap.size w w':=by
 go_enter Tryz.func127,Tryz.ntmps127
 go_wp2_with (go_at_call 85;refine(Bq _ _ _ _).mono ?_;rintro e w1 ⟨rfl,rfl⟩)
 go_ret
 exact⟨rfl,A7 _ _⟩
theorem V4(a b:Int)(w:Wq) :
  Calls Pg 138 #[.agg #[O J a,O J b]] w fun e w'=>e=.returned (.agg #[O J a,O J b])/\(w.alloc (.cells #[O J a,O J b] 30)).alloc (.cells #[O J a,O J b] 175)=w':=by
 go_enter Tryz.func138,Tryz.ntmps138
 go_wp2
 exact bodyPost_ret (v:=.agg #[O J a,O J b]) (by simp[results,Tryz.results138,go_sem]) rfl ⟨rfl,rfl⟩
theorem O0(a b:Int)(w:Wq)(h:E5 a b=true) :
  Calls Pg 96 #[.agg #[O J a,O J b]] w fun e w'=>e=.returned (O J 0)/\Below w.heap.size w w':=by
 obtain⟨⟨h0,h1⟩,h2,h3⟩:=(Jh a b).1 h
 clear h
 have i0:∀ w,(Instr.index 175 (.agg #[O J a,O J b]) (O J 0)).run Pg w=.ok (O J a) w:=fun _=>by kernel_rfl
 have i1:∀ w,(Instr.index 175 (.agg #[O J a,O J b]) (O J 1)).run Pg w=.ok (O J b) w:=fun _=>by kernel_rfl
 go_enter Tryz.func96,Tryz.ntmps96
 go_wp2_with (first|(go_at_call 138;refine(V4 _ _ _).mono ?_;rintro e w1 ⟨rfl,rfl⟩))
 refine wp_loop_rounds 3 ?_
 rw[rounds_succ]
 go_wp2
 rw[rounds_succ]
 go_wp2
 rw[rounds_succ]
 go_wp2
 go_ret
 refine⟨rfl,?_⟩
 repeat (first|exact Below.refl _ _|refine Below.alloc ?_ (by simp <;> omega) _)
theorem Ve(a b:Int)(w:Wq)(h:E5 a b=false) :
  Calls Pg 96 #[.agg #[O J a,O J b]] w fun e w'=>e=.returned (O J 3)/\Below w.heap.size w w':=by
 have hc:a<0\/(0<=a/\15<a)\/(0<=a/\a<=15/\b<0)\/(0<=a/\a<=15/\0<=b/\15<b):=by
  have:¬ ((0<=a/\a<=15)/\(0<=b/\b<=15)):=fun hh=>by rw[(Jh a b).2 hh] at h;cases h
  omega
 clear h
 have i0:∀ w,(Instr.index 175 (.agg #[O J a,O J b]) (O J 0)).run Pg w=.ok (O J a) w:=fun _=>by kernel_rfl
 have i1:∀ w,(Instr.index 175 (.agg #[O J a,O J b]) (O J 1)).run Pg w=.ok (O J b) w:=fun _=>by kernel_rfl
 rcases hc with h|⟨h1,h2⟩|⟨h1,h2,h3⟩|⟨h1,h2,h3,h4⟩
 all_goals
  go_enter Tryz.func96,Tryz.ntmps96
  go_wp2_with (first|(go_at_call 138;refine(V4 _ _ _).mono ?_;rintro e w1 ⟨rfl,rfl⟩))
  refine wp_loop_rounds 3 ?_
  rw[rounds_succ]
  go_wp2
  try (rw[rounds_succ];go_wp2)
  go_ret
  refine⟨rfl,?_⟩
  repeat (first|exact Below.refl _ _|refine Below.alloc ?_ (by simp <;> omega) _)
theorem a0z(a b:Int)(w:Wq) :
  Calls Pg 96 #[.agg #[O J a,O J b]] w fun e w'=>e=.returned (O J (if E5 a b then 0 else 3))/\Below w.heap.size w w':=by
 cases h:E5 a b
 ·exact Ve a b w h
 ·exact O0 a b w h
end
section
open Go.ChangeShapes Go.WideShapes Go.ChangeAt Go.RowKit
theorem a7r(l:List Int)(k:Nat)(h:k<l.length)(x:Int)(h0:hasB (l.take k) x=false)(hx:¬ x=l[k]):hasB (l.take (k+1)) x=false:=by
 rw[Vb] at h0 ⊢
 rw[List.take_succ_eq_append_getElem h,List.mem_append,List.mem_singleton]
 rintro (h|h)
 ·exact h0 h
 ·exact hx h
theorem b1a(l:List Int)(k n:Nat)(h:k<l.length)(hk:k<n)(x:Int)(hx:x=l[k]):hasB (l.take n) x=true:=by
 rw[Ny]
 subst hx
 have:(l.take n)[k]?=some l[k]:=by rw[List.getElem?_take_of_lt hk];exact List.getElem?_eq_getElem h
 exact List.mem_of_getElem? this
theorem a4s(ao:Option Addr)(n cap:Nat)(l:List Int)(x:Int)(w:Wq)(hn:n<=l.length)(hbig:n<=9223372036854775807)
  (hat:n=0\/∃ b o,ao=some ⟨b,o,none⟩/\∀ i (h:i<l.length),w.cell? ⟨b,o+i,none⟩=some (O J l[i])) :
  Calls Pg 78 #[Y ao n cap,O J x] w fun e w'=>∃ i:Int,e=.returned (O J i)/\decide (0<=i)=hasB (l.take n) x/\w=w':=by
 rcases hat with rfl|⟨b,o,rfl,hc⟩
 ·go_enter Tryz.func78,Tryz.ntmps78
  go_wp2
  refine wp_loop_rounds 1 ?_
  rw[rounds_succ]
  go_wp2
  go_ret
  exact⟨-1,rfl,by simp[hasB],rfl⟩
 ·go_enter Tryz.func78,Tryz.ntmps78
  go_wp2
  go_loop [8] (fun i=>∃ k:Nat,k<=n/\i=O J k/\Hid (hasB (l.take k) x=false)) (fun i=>n - (intOf i).toNat)
  case atStart=>exact⟨0,Nat.zero_le _,rfl,by show _=_;simp[hasB]⟩
  case round =>
   obtain⟨k,hk,rfl,HC⟩:=hrel
   by_cases hlt:k<n
   ·have hkl:k<l.length:=by omega
    have hck:=hc k hkl
    clear hc
    by_cases hx:x=l[k]
    ·have HH:Hid (hasB (l.take n) x=true):=b1a l k n hkl hlt x hx
     generalize l[k]=y at hck hx
     subst hx
     go_wp2
     go_ret
     exact⟨k,rfl,by rw[HH.out];simp,rfl⟩
    ·have HH:Hid (hasB (l.take (k+1)) x=false):=a7r l k hkl x HC.out hx
     have hx':(x==l[k])=false:=by simpa using hx
     go_wp2
     go_round
     case rel=>exact⟨k+1,by omega,by go_num,HH⟩
     case measure=>simp[intOf];omega
   ·obtain rfl:k=n:=by omega
    go_wp2
    go_ret
    exact⟨-1,rfl,by rw[HC.out];rfl,rfl⟩
theorem Hg(ao:Option Addr)(n cap:Nat)(l:List Int)(x:Int)(w:Wq)(hn:n<=l.length)(hbig:n<=9223372036854775807)
  (hat:n=0\/∃ b o,ao=some ⟨b,o,none⟩/\∀ i (h:i<l.length),w.cell? ⟨b,o+i,none⟩=some (O J l[i])) :
  Calls Pg 33 #[Y ao n cap,O J x] w fun e w'=>e=.returned (.bool (hasB (l.take n) x))/\w=w':=by
 go_enter Tryz.func33,Tryz.ntmps33
 go_wp2_with (go_at_call 78;refine(a4s _ _ _ l _ _ hn hbig hat).mono ?_;rintro e w1 ⟨i,rfl,hd,rfl⟩)
 go_ret
 exact⟨rfl,rfl⟩
end
section
open Go.ChangeShapes Go.WideShapes Go.ChangeAt Go.RowKit
theorem Ba{k:IntKind}{a b:Int}(h:a=b):Ending.returned (.int k a)=.returned (.int k b):=by rw[h]
theorem Hy{α:Type}{f:α->Int}{l:List α}{k:Nat}(h:k<l.length){e:Int}(he:f l[k]=e)(h0:e≠0)(H:Ah f l=Ah f (l.drop k)):Ah f l=e:=by
 rw[H,Jt f l k h,he,if_pos h0]
theorem step_ok{α:Type}{f:α->Int}{l:List α}{k:Nat}(h:k<l.length)(he:f l[k]=0)(H:Ah f l=Ah f (l.drop k)):Ah f l=Ah f (l.drop (k+1)):=by
 rw[H,Jt f l k h,he,if_neg (by simp)]
theorem Us(M:Mm)(aS aH aF aL:Option Addr)(cS cH cF cL:Nat)(w:Wq)(A:At w aS aH aF aL cS cH cF cL M) :
  Calls Pg 86 #[.agg #[Y aS M.slots.length cS,Y aH M.heads.length cH,Y aF M.free.length cF,Y aL M.locks.length cL,O J M.now]] w fun e w' =>
   e=.returned (O J (Ah (Cb M.heads.length M.slots.length) M.slots))/\Below w.heap.size w w':=by
 obtain⟨S,H,F,L,now⟩:=M
 obtain⟨rs,rh,rf,rl⟩:=A
 dsimp only at rs rh rf rl ⊢
 have m1:=rs.max;have m2:=rs.le;have m3:=rh.max;have m4:=rh.le
 have n1:S.length<=9223372036854775807:=by omega
 have n2:H.length<=9223372036854775807:=by omega
 obtain⟨f,hf⟩:∃ f,f=Cb H.length S.length:=⟨_,rfl⟩
 have HF:Hid (f=Cb H.length S.length):=hf
 rw[<- hf]
 clear hf
 have hz:=rs.at_
 clear rh rf rl rs
 go_enter Tryz.func86,Tryz.ntmps86
 go_wp2
 rcases hz with h0|⟨b,o,rfl,hc⟩
 ·have HE:Hid (Ah f S=0):=by
   show _=_
   rw[List.eq_nil_of_length_eq_zero h0];rfl
  refine wp_loop_rounds 1 ?_
  rw[rounds_succ]
  go_wp2
  go_ret
  exact⟨Ba HE.out.symm,A7 _ _⟩
 ·go_loopw [9] (fun i wr=>∃ k:Nat,k<=S.length/\i=O J k/\Below (w.heap.size+1) (w.alloc (.cells #[Y (some ⟨b,o,none⟩) S.length cS,Y aH H.length cH,Y aF F.length cF,Y aL L.length cL,O J now] 25)) wr/\Hid (Ah f S=Ah f (S.drop k)))
   (fun i _=>S.length - (intOf i).toNat)
  case atStart=>exact⟨0,Nat.zero_le _,rfl,Below.refl _ _,by show _=_;rw[List.drop_zero]⟩
  case round =>
   obtain⟨k,hk,rfl,hb,HE⟩:=hrel
   have hbw:Below w.heap.size w wr:=(A7 w _).trans (hb.mono (by omega))
   obtain⟨q0,q1,q2,q3,q4,q5⟩:=Eb hb
   by_cases hlt:k<S.length
   ·obtain⟨c0,c1,c2,c3,c4,c5⟩:=hc k hlt
    have lt:=cell_lt c0
    obtain⟨qc,-⟩:=Bv hbw
    rw[<- qc _ _ lt] at c0 c1 c2 c3 c4 c5
    clear hc qc
    have lt':b<wr.heap.size:=cell_lt c0
    generalize hs:S[k]=s at c0 c1 c2 c3 c4 c5
    obtain⟨r,a,bb,u,i,nx⟩:=s
    dsimp only at c0 c1 c2 c3 c4 c5
    have HS:Hid (S[k]=⟨r,a,bb,u,i,nx⟩):=hs
    clear hs
    cases h1:inB r 0 1000
    ·have HV:Hid (Ah f S=3):=Hy hlt (by rw[HS.out,HF.out];simp[Cb,h1]) (by decide) HE.out
     go_wp2_with (go_at_call 85;refine(Bq _ _ _ _).mono ?_;rintro e w1 ⟨rfl,rfl⟩)
     go_ret
     exact⟨Ba HV.out.symm,hbw.alloc hbw.size _⟩
    cases h2:inB u 0 2000000
    ·have HV:Hid (Ah f S=3):=Hy hlt (by rw[HS.out,HF.out];simp[Cb,h2]) (by decide) HE.out
     go_wp2_with (go_at_call 85;refine(Bq _ _ _ _).mono ?_;rintro e w1 ⟨rfl,rfl⟩)
     go_ret
     exact⟨Ba HV.out.symm,hbw.alloc hbw.size _⟩
    cases h3:E5 a bb
    ·have HV:Hid (Ah f S=3):=Hy hlt (by rw[HS.out,HF.out];simp[Cb,h3]) (by decide) HE.out
     go_wp2_with (first|(go_at_call 85;refine(Bq _ _ _ _).mono ?_;rintro e w1 ⟨rfl,rfl⟩)|(go_at_call 96;refine(Ve _ _ _ h3).mono ?_;rintro e w1 ⟨rfl,hb1⟩))
     go_ret
     exact⟨Ba HV.out.symm,(hbw.alloc hbw.size _).trans (hb1.mono (by have:=hbw.size;simp;omega))⟩
    go_wp2_with (go_at_call 85;refine(Bq _ _ _ _).mono ?_;rintro e w1 ⟨rfl,rfl⟩)
    refine(O0 _ _ _ h3).mono ?_
    rintro e w1 ⟨rfl,hb1⟩
    have hbx:Below w.heap.size w w1:=(hbw.alloc hbw.size _).trans (hb1.mono (by have:=hbw.size;simp;omega))
    have hby:=(hb.alloc q5 (.cells #[O J r,O J a,O J bb,O J u,.bool i,O J nx] 64)).trans (hb1.mono (by simp;omega))
    have s5:w1.cell? ⟨wr.heap.size,5,none⟩=some (O J nx):=((Bv hb1).1 _ _ (by simp)).trans (by simp)
    have z1:wr.heap.size+1<=w1.heap.size:=by have:=hb1.size;simpa using this
    clear hb1 c0 c1 c2 c3 c4 c5 q0 q1 q2 q3 q4
    obtain⟨q0,q1,q2,q3,q4,-⟩:=Eb hby
    cases h4:inB nx (-(H.length:Int)) S.length
    ·have HV:Hid (Ah f S=5):=Hy hlt (by rw[HS.out,HF.out];simp[Cb,h1,h2,h3,h4]) (by decide) HE.out
     go_wp2_with (go_at_call 127;refine(J5 _ _ _ _ _ _ _ _ _ _ _ _ _ _ _ n1 n2).mono ?_;rintro e w2 ⟨rfl,hb2⟩)
     go_ret
     exact⟨Ba HV.out.symm,hbx.trans (hb2.mono hbx.size)⟩
    ·have HV:Hid (Ah f S=Ah f (S.drop (k+1))):=step_ok hlt (by rw[HS.out,HF.out];simp[Cb,h1,h2,h3,h4]) HE.out
     go_wp2_with (go_at_call 127;refine(J5 _ _ _ _ _ _ _ _ _ _ _ _ _ _ _ n1 n2).mono ?_;rintro e w2 ⟨rfl,hb2⟩)
     go_roundw
     case rel=>exact⟨k+1,by omega,by go_num,hby.trans (hb2.mono (by omega)),HV⟩
     case measure=>simp[intOf];omega
   ·have HV:Hid (Ah f S=0):=by
     show _=_
     rw[HE.out,Ig f S k (by omega)]
    go_wp2
    go_ret
    exact⟨Ba HV.out.symm,hbw⟩
end
end Go.Proofs.YthhgoenomehobaaGreat.mm
