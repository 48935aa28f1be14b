/- Parts. -/
import Derived.Test.YthhgoenomehobaaGreatP05
import Derived.Lib.SmallJoins
import Derived.Lib.BufferMore
namespace Go.Proofs.YthhgoenomehobaaGreat.mm
open Tryz renaming underlying23 → fA, underlying22 → fB, prog → Pg
open Lib renaming run_eql_slice_nil → eY
open Value renaming slice → eX, int → O, slice → Y
open World renaming size_setCell → eQ, ownsRow_nil → eU
open List renaming length_set → dZ, toArray → eG, eq_nil_of_length_eq_zero → bQ, mem_cons → aZ, nil_append → eP
open Go renaming Value → dU, ownsRow_setCell_other → dV, TypeId → dX, wpList_append_fits_any → dY, World → Wq
open Nat renaming le_refl → aC, le_trans → dQ, zero_add → dR
open Joins renaming cell_of_block → dN, block_setCell → dO, unfrozen_of_block → dP
open RowKit.Below renaming refl → dK, heap_setCell → dM
open Tryz
set_option maxRecDepth 100000
set_option linter.unusedVariables false
open IntKind renaming i64 → J
open ChangeShapes WideShapes ChangeAt RowKit Joins
set_option maxHeartbeats 0
variable {w0 w w1 w':Wq}{base b o:Nat}(ad:Addr){L:List (Nat × Obj)}{K:List (dU × Mm)}{B lo size n bg:Nat}{ao:Option Addr}{uP j g:Nat}{e:dX}{v:dU}{xs:List dU}{u:dU}{l:List Int}{S:List Sl}{aS aH aF aL:Option Addr}{cS cH cF cL:Nat}{M:Mm}
def Sl.enc(s:Sl):List dU:=[O J s.refs,O J s.a,O J s.b,O J s.unt,.bool s.inn,O J s.next]
def encS(l:List Sl):List dU:=l.flatMap Sl.enc
def encI(l:List Int):List dU:=l.map (Value.int .i64)
theorem Ee(s:Sl)(l:List Sl):encS (s :: l)=s.enc++encS l:=by simp[encS]
theorem Ie(l:List Sl):(encS l).length=l.length*6:=by
 induction l with
 | nil=>rfl
 | cons s l ih=>rw[Ee,List.length_append,ih];simp[Sl.enc];omega
theorem Dz(l:List Int):(encI l).length=l.length:=by simp[encI]
theorem Sr(l:List Sl)(i q:Nat)(h:i<l.length)(hq:q<6):(encS l)[i*6+q]?=(l[i].enc)[q]?:=by
 induction l generalizing i with
 | nil=>simp at h
 | cons s l ih =>
  rw[Ee]
  match i with
  | 0 =>
   rw[List.getElem?_append_left (by simp[Sl.enc];omega)]
   simp
  | i+1 =>
   rw[List.getElem?_append_right (by simp[Sl.enc];omega)]
   have hl:s.enc.length=6:=rfl
   rw[hl,show (i+1)*6+q - 6=i*6+q by omega,ih i (by simpa using h)]
   simp
theorem a0w(l:List Sl):∀ u∈encS l,u.oneCell'=true:=by
 intro u hu
 simp only[encS,List.mem_flatMap,Sl.enc,aZ,List.not_mem_nil,or_false] at hu
 obtain⟨s,_,h|h|h|h|h|h⟩:=hu <;> (subst h;rfl)
theorem Hg(l:List Int):∀ u∈encI l,u.oneCell'=true:=by
 intro u hu
 simp only[encI,List.mem_map] at hu
 obtain⟨s,_,rfl⟩:=hu;rfl
theorem Jf.flat(r:Jf w (some ⟨b,o,none⟩) bg S):∀ j u,(encS S)[j]?=some u->w.cell? ((⟨b,o,none⟩:Addr).add j)=some u:=by
 intro j u hu
 have hj:j<S.length*6:=by
  rw[<- Ie]
  exact(List.getElem?_eq_some_iff.1 hu).1
 rcases r.at_ with h0|⟨b',o',e,hc⟩
 ·omega
 cases e
 have hi:j / 6<S.length:=by omega
 have e6:j / 6*6+j % 6=j:=by omega
 have hq:j % 6<6:=by omega
 obtain⟨c0,c1,c2,c3,c4,c5⟩:=hc (j / 6) hi
 rw[<- e6,Sr S _ _ hi hq] at hu
 rw[Addr.add_lit,<- e6]
 generalize j / 6=i at *
 generalize j % 6=q at *
 rw[<- Nat.add_assoc]
 simp only[Sl.enc] at hu
 match q,hq with
 | 0,_=>simp at hu;subst hu;exact c0
 | 1,_=>simp at hu;subst hu;exact c1
 | 2,_=>simp at hu;subst hu;exact c2
 | 3,_=>simp at hu;subst hu;exact c3
 | 4,_=>simp at hu;subst hu;exact c4
 | 5,_=>simp at hu;subst hu;exact c5
theorem Dk.flat(r:Dk w (some ⟨b,o,none⟩) bg l):∀ j u,(encI l)[j]?=some u->w.cell? ((⟨b,o,none⟩:Addr).add j)=some u:=by
 intro j u hu
 have hj:j<l.length:=by
  rw[<- Dz]
  exact(List.getElem?_eq_some_iff.1 hu).1
 rcases r.at_ with h0|⟨b',o',e,hc⟩
 ·omega
 cases e
 simp only[encI,List.getElem?_map,List.getElem?_eq_getElem hj,Option.map_some,Option.some.injEq] at hu
 subst hu
 rw[Addr.add_lit]
 exact hc j hj
theorem Jf.src{bg:Nat}{S:List Sl}(r:Jf w ao bg S):∀ ad,ao=some ad->∀ j u,(encS S)[j]?=some u->w.cell? (ad.add j)=some u:=by
 rintro ad rfl j u hu
 rcases r.at_ with h0|⟨b,o,e,hc⟩
 ·have:=(List.getElem?_eq_some_iff.1 hu).1
  rw[Ie] at this
  omega
 ·cases e
  exact r.flat j u hu
theorem Dk.src{bg:Nat}{l:List Int}(r:Dk w ao bg l):∀ ad,ao=some ad->∀ j u,(encI l)[j]?=some u->w.cell? (ad.add j)=some u:=by
 rintro ad rfl j u hu
 rcases r.at_ with h0|⟨b,o,e,hc⟩
 ·have:=(List.getElem?_eq_some_iff.1 hu).1
  rw[Dz] at this
  omega
 ·cases e
  exact r.flat j u hu
theorem Jf.P9(hl:S.length<=bg)(hm:S.length*48<=140737488351232)(hc:∀ j,j<S.length*6->w.cell? ⟨b,j,none⟩=(encS S)[j]?):Jf w (some ⟨b,0,none⟩) bg S:=by
 refine⟨hl,hm,(fun h=>by cases h),.inr ⟨b,0,rfl,fun i hi=>?_⟩⟩
 have e:∀ q,q<6->w.cell? ⟨b,0+i*6+q,none⟩=(S[i].enc)[q]?:=fun q hq=>by
  rw[dR,hc _ (by omega),Sr S i q hi hq]
 exact⟨e 0 (by omega),e 1 (by omega),e 2 (by omega),e 3 (by omega),e 4 (by omega),e 5 (by omega)⟩
theorem Dk.P9(hl:l.length<=bg)(hm:l.length*8<=140737488351232)(hc:∀ j,j<l.length->w.cell? ⟨b,j,none⟩=(encI l)[j]?):Dk w (some ⟨b,0,none⟩) bg l:=by
 refine⟨hl,hm,(fun h=>by cases h),.inr ⟨b,0,rfl,fun i hi=>?_⟩⟩
 rw[dR,hc i hi]
 simp[encI,hi]
theorem Jf.He(h:w.ownsRow base 64 6 v n (encS S))(hm:S.length*48<=140737488351232):∃ ao bg,v=Y ao S.length bg/\Jf w ao bg S:=by
 have hl:=h.1
 rw[Ie] at hl
 have hn:S.length=n:=by omega
 subst hn
 rcases h.2 with ⟨rfl,h0⟩|⟨g,bg,sU,rfl,hg,hb,hc,-,hs,ht⟩
 ·exact⟨none,0,by rw[h0],by omega,hm,fun _=>rfl,.inl h0⟩
 ·exact⟨_,_,rfl,.P9 hc hm fun j hj=>h.cellAt j hj⟩
theorem Dk.He(h:w.ownsRow base 3 1 v n (encI l))(hm:l.length*8<=140737488351232):∃ ao bg,v=Y ao l.length bg/\Dk w ao bg l:=by
 have hl:=h.1
 rw[Dz] at hl
 have hn:l.length=n:=by omega
 subst hn
 rcases h.2 with ⟨rfl,h0⟩|⟨g,bg,sU,rfl,hg,hb,hc,-,hs,ht⟩
 ·exact⟨none,0,by rw[h0],by omega,hm,fun _=>rfl,.inl h0⟩
 ·exact⟨_,_,rfl,.P9 hc hm fun j hj=>h.cellAt j (by omega)⟩
theorem iI:(Pg.info? 3).map (fun i=>(i.zero,i.size,i.bytes))=some (some (O J 0),1,8):=by kernel_rfl
theorem iS:(Pg.info? 64).map (fun i=>(i.zero,i.size,i.bytes))=some (some (.agg #[O J 0,O J 0,O J 0,O J 0,.bool false,O J 0]),6,48):=by kernel_rfl
theorem own_below(h:w.ownsRow lo e size v n xs)(hb:Below w.heap.size w w'):w'.ownsRow lo e size v n xs :=
 h.kept (row:=none) ⟨hb.os,hb.tape,hb.output,hb.size,fun k hk _=>hb.block k hk⟩ (by cases hv:v.ownBlock <;> simp)
theorem a3l(bg:Nat)(l:List Int)(w:Wq)(r:Dk w (some ad) bg l) :
  Calls Pg 103 #[Y (some ad) l.length bg] w fun e w'=>e=.returned (Y (some ⟨w.heap.size,0,none⟩) l.length l.length)/\w'.ownsRow w.heap.size 3 1 (Y (some ⟨w.heap.size,0,none⟩) l.length l.length) l.length (encI l)/\Below w.heap.size w w':=by
 obtain⟨i0,hi,ng,qj,pq⟩:=info_parts iI
 have m1:=r.max
 have m2:=r.le
 have HS:Qi _:=r.src
 have HN:Qi _:=r.nil
 clear r
 have q24:∀ (w:Wq) (a:Option Addr) (n c:Nat),(binOp .eql 23 (Y a n c) (Y none 0 0)).run Pg w=.ok (.bool a.isNone) w:=fun w a n c=>eY w _ _ a n c 0 0 fA
 go_enter func103,ntmps103
 go_wp2_with (first
  | (at_make;refine wpList_make_own _ rfl _ _ 23 rfl w.heap.size 3 i0 (O J 0) 1 fA hi ng qj .i64 .i64 _ l.length rfl rfl rfl (by rw[pq];omega) (by unfold maxLen;omega) (aC _) ?_;intro w1 jv qL)
  | (at_builtin;refine dY _ rfl _ _ 23 rfl w.heap.size 3 i0 1 fA hi qj w.heap.size 0 l.length _ rfl jv (some ad) l.length bg (encI l) rfl (by rw[Dz];omega) (fun h=>by have:=HN.o h;omega) (fun ad h j u hj=>qL.cell (HS.o ad h j u hj) (by intro hh;cases hh)) (Hg l) (by omega) ?_;intro w2 lu qf))
 go_ret
 simp only[dR,eP] at lu
 refine⟨by simp,lu,?_⟩
 have:=((dK w.heap.size w).grown qL (aC _) (fun k h=>by cases h))
 exact this.grown qf qL.size (fun k h=>by cases h;exact aC _)
theorem a3n(bg:Nat)(l:List Sl)(w:Wq)(r:Jf w (some ad) bg l) :
  Calls Pg 141 #[Y (some ad) l.length bg] w fun e w'=>e=.returned (Y (some ⟨w.heap.size,0,none⟩) l.length l.length)/\w'.ownsRow w.heap.size 64 6 (Y (some ⟨w.heap.size,0,none⟩) l.length l.length) l.length (encS l)/\Below w.heap.size w w':=by
 obtain⟨i0,hi,ng,qj,pq⟩:=info_parts iS
 have m1:=r.max
 have m2:=r.le
 have HS:Qi _:=r.src
 have HN:Qi _:=r.nil
 clear r
 have q27:∀ (w:Wq) (a:Option Addr) (n c:Nat),(binOp .eql 22 (Y a n c) (Y none 0 0)).run Pg w=.ok (.bool a.isNone) w:=fun w a n c=>eY w _ _ a n c 0 0 fB
 go_enter func141,ntmps141
 go_wp2_with (first
  | (at_make;refine wpList_make_own _ rfl _ _ 22 rfl w.heap.size 64 i0 (.agg #[O J 0,O J 0,O J 0,O J 0,.bool false,O J 0]) 6 fB hi ng qj .i64 .i64 _ l.length rfl rfl rfl (by rw[pq];omega) (by unfold maxLen;omega) (aC _) ?_;intro w1 jv qL)
  | (at_builtin;refine dY _ rfl _ _ 22 rfl w.heap.size 64 i0 6 fB hi qj w.heap.size 0 l.length _ rfl jv (some ad) l.length bg (encS l) rfl (Ie l) (fun h=>by have:=HN.o h;omega) (fun ad h j u hj=>qL.cell (HS.o ad h j u hj) (by intro hh;cases hh)) (a0w l) (by omega) ?_;intro w2 lu qf))
 go_ret
 simp only[dR,eP] at lu
 refine⟨by simp,lu,?_⟩
 have:=((dK w.heap.size w).grown qL (aC _) (fun k h=>by cases h))
 exact this.grown qf qL.size (fun k h=>by cases h;exact aC _)
theorem a3k(w:Wq):Calls Pg 103 #[Y none 0 0] w fun e w'=>e=.returned (Y none 0 0)/\w=w':=by
 have q24:∀ (w:Wq) (a:Option Addr) (n c:Nat),(binOp .eql 23 (Y a n c) (Y none 0 0)).run Pg w=.ok (.bool a.isNone) w:=fun w a n c=>eY w _ _ a n c 0 0 fA
 go_enter func103,ntmps103
 go_wp2
 go_ret
 exact⟨rfl,rfl⟩
theorem a3m(w:Wq):Calls Pg 141 #[Y none 0 0] w fun e w'=>e=.returned (Y none 0 0)/\w=w':=by
 have q27:∀ (w:Wq) (a:Option Addr) (n c:Nat),(binOp .eql 22 (Y a n c) (Y none 0 0)).run Pg w=.ok (.bool a.isNone) w:=fun w a n c=>eY w _ _ a n c 0 0 fB
 go_enter func141,ntmps141
 go_wp2
 go_ret
 exact⟨rfl,rfl⟩
theorem Py(ao:Option Addr)(bg:Nat)(l:List Int)(w:Wq)(r:Dk w ao bg l) :
  Calls Pg 103 #[Y ao l.length bg] w fun e w'=>∃ a c,e=.returned (Y a l.length c)/\w'.ownsRow w.heap.size 3 1 (Y a l.length c) l.length (encI l)/\Below w.heap.size w w':=by
 cases ao with
 | some ad =>
  refine(a3l ad bg l w r).mono ?_
  rintro e w' ⟨rfl,h1,h2⟩
  exact⟨_,_,rfl,h1,h2⟩
 | none =>
  have hc:=r.nil rfl
  have hl:l=[]:=bQ (by have:=r.le;omega)
  subst hc hl
  refine(a3k w).mono ?_
  rintro e w' ⟨rfl,rfl⟩
  exact⟨_,_,rfl,eU _ _ _ _,dK _ _⟩
theorem a7j(ao:Option Addr)(bg:Nat)(l:List Sl)(w:Wq)(r:Jf w ao bg l) :
  Calls Pg 141 #[Y ao l.length bg] w fun e w'=>∃ a c,e=.returned (Y a l.length c)/\w'.ownsRow w.heap.size 64 6 (Y a l.length c) l.length (encS l)/\Below w.heap.size w w':=by
 cases ao with
 | some ad =>
  refine(a3n ad bg l w r).mono ?_
  rintro e w' ⟨rfl,h1,h2⟩
  exact⟨_,_,rfl,h1,h2⟩
 | none =>
  have hc:=r.nil rfl
  have hl:l=[]:=bQ (by have:=r.le;omega)
  subst hc hl
  refine(a3m w).mono ?_
  rintro e w' ⟨rfl,rfl⟩
  exact⟨_,_,rfl,eU _ _ _ _,dK _ _⟩
section
structure Ex where
 rs:List dU
 rt:dX
 ne:∀ t ∈ [(3:dX),64 ,30 ,47 ,61 ],t≠rt
variable {Xb:Ex}
@[reducible] def X0:Ex:=⟨[],25,by decide⟩
theorem Aj{v0 v1 v2 v3 v4:dU}{rs:List dU}{t:dX}(h:w.heap[B]?=some (.cells (eG (v0 :: v1 :: v2 :: v3 :: v4 :: rs)) t (0,0))) :
  w.cell? ⟨B,0,none⟩=some v0/\w.cell? ⟨B,1,none⟩=some v1/\w.cell? ⟨B,2,none⟩=some v2/\w.cell? ⟨B,3,none⟩=some v3/\w.cell? ⟨B,4,none⟩=some v4 /\
  w.frozen? ⟨B,0,none⟩=false/\w.frozen? ⟨B,1,none⟩=false/\w.frozen? ⟨B,2,none⟩=false/\w.frozen? ⟨B,3,none⟩=false/\w.frozen? ⟨B,4,none⟩=false/\B<w.heap.size :=
 ⟨by rw[dN h];rfl,by rw[dN h];rfl,by rw[dN h];rfl,by rw[dN h];rfl,by rw[dN h];rfl,
  dP h _,dP h _,dP h _,dP h _,dP h _,lt_of_block h⟩
def Dj(v v':dU):Prop:=∀ g,v.ownBlock=some g->v'.ownBlock≠some g
theorem Dj.symm{v':dU}(h:Dj v v'):Dj v' v:=fun g e e'=>h g e' e
theorem Bg(h:w.ownsRow lo e size v n xs):∃ ao bg,v=Y ao n bg:=by
 rcases ownsRow_forms h with ⟨rfl,rfl⟩|⟨g,bg,rfl⟩
 ·exact⟨_,_,rfl⟩
 ·exact⟨_,_,rfl⟩
theorem a3s(h:w.ownsRow lo e size v n xs)(hg:v.ownBlock=some g):∃ sU,w.heap[g]?=some (.cells sU e (0,0)):=by
 rcases h.2 with ⟨rfl,_⟩|⟨g',bg,sU,rfl,_,hb,_⟩
 ·cases hg
 ·cases hg
  exact⟨_,hb⟩
theorem own_ne{B:Nat}{e t:dX}{v:dU}{xs:List dU}{cs:Array dU}(h:w.ownsRow lo e size v n xs)(hB:w.heap[B]?=some (.cells cs t (0,0)))(ne:e≠t):v.ownBlock≠some B:=by
 intro hg
 obtain⟨sU,hc⟩:=a3s h hg
 rw[hB] at hc
 injection hc with hc
 injection hc with _ hc
 exact ne hc.symm
theorem D9{TA n':Nat}{e e':dX}{v v':dU}{xs xs':List dU}(h:w.ownsRow lo e size v n xs)(h':w.ownsRow uP e' TA v' n' xs')(ne:e≠e'):Dj v v':=by
 intro g hg QP
 obtain⟨sU,hc⟩:=a3s h hg
 exact own_ne h' hc (Ne.symm ne) QP
theorem Dj.grown{u':dU}(h:Dj v u)(hv:∀ g,v.ownBlock=some g->g<w.heap.size)(ru:u'.ownBlock=u.ownBlock\/u'.ownBlock=some w.heap.size):Dj v u':=by
 intro g hg QP
 rcases ru with e|e
 ·exact h g hg (e ▸ QP)
 ·have:=hv g hg
  rw[e] at QP
  injection QP with QP
  omega
theorem Dj.ne(h:Dj v u):v.ownBlock=none\/v.ownBlock≠u.ownBlock:=by
 cases hv:v.ownBlock with
 | none=>exact .inl rfl
 | some g=>exact .inr (fun e=>h g hv e.symm)
theorem U7{a b:Option Addr}{n c m d n' c' m' d':Nat}(h:Dj (Y a n c) (Y b m d)):Dj (Y a n' c') (Y b m' d'):=by
 cases a <;> cases b <;> exact h
structure Hi4(lo:Nat)(aS aH aF aL:Option Addr):Prop where
 s:∀ ad,aS=some ad->lo<=ad.block
 h:∀ ad,aH=some ad->lo<=ad.block
 f:∀ ad,aF=some ad->lo<=ad.block
 l:∀ ad,aL=some ad->lo<=ad.block
theorem b3m(h:lo<=g):∀ ad,(some ⟨g,0,none⟩:Option Addr)=some ad->lo<=ad.block:=by
 rintro ad ⟨⟩
 exact h
def Ans(lo:Nat)(w:Wq)(v:dU)(M:Mm):Prop :=
 ∃ aS aH aF aL cS cH cF cL,v=.agg #[Y aS M.s.length cS,Y aH M.h.length cH,Y aF M.f.length cF,Y aL M.l.length cL,O J M.w]/\At w aS aH aF aL cS cH cF cL M/\Hi4 lo aS aH aF aL
theorem Hi4.mono(h:Hi4 lo aS aH aF aL)(hl:uP<=lo):Hi4 uP aS aH aF aL :=
 ⟨fun a e=>dQ hl (h.s a e),fun a e=>dQ hl (h.h a e),fun a e=>dQ hl (h.f a e),fun a e=>dQ hl (h.l a e)⟩
theorem Ans.below{w w':Wq}{v:dU}{M:Mm}(h:Ans lo w v M)(hb:Below w.heap.size w w'):Ans lo w' v M:=by
 obtain⟨aS,aH,aF,aL,cS,cH,cF,cL,e,A,hi⟩:=h
 exact⟨aS,aH,aF,aL,cS,cH,cF,cL,e,A.below hb,hi⟩
theorem Ans.mono{w:Wq}{v:dU}{M:Mm}(h:Ans lo w v M)(hl:uP<=lo):Ans uP w v M:=by
 obtain⟨aS,aH,aF,aL,cS,cH,cF,cL,e,A,hi⟩:=h
 exact⟨aS,aH,aF,aL,cS,cH,cF,cL,e,A,hi.mono hl⟩
def J3(w:Wq)(g:Nat)(v0 v1 v2 v3 v4:dU):Wq :=
 ((((w.setCell ⟨g,0,none⟩ v0).setCell ⟨g,1,none⟩ v1).setCell ⟨g,2,none⟩ v2).setCell ⟨g,3,none⟩ v3).setCell ⟨g,4,none⟩ v4
theorem Xt{u0 u1 u2 u3 u4:dU}{rs:List dU}{t:dX}(h:w.heap[g]?=some (.cells (eG (u0 :: u1 :: u2 :: u3 :: u4 :: rs)) t (0,0)))(v0 v1 v2 v3 v4:dU):(J3 w g v0 v1 v2 v3 v4).heap[g]?=some (.cells (eG (v0 :: v1 :: v2 :: v3 :: v4 :: rs)) t (0,0)):=by
 have:=dO (i:=4) (dO (i:=3) (dO (i:=2) (dO (i:=1) (dO (i:=0) h v0) v1) v2) v3) v4
 rw[J3,this]
 simp
theorem Rt{k:Nat}{v0 v1 v2 v3 v4:dU}(h:k≠g):(J3 w g v0 v1 v2 v3 v4).heap[k]?=w.heap[k]?:=by
 unfold J3
 repeat rw[dM _ _ _ _ (by dsimp only;exact h)]
theorem O9(w:Wq)(g B:Nat)(v0 v1 v2 v3 v4:dU)(h:B<=g):Below B w (J3 w g v0 v1 v2 v3 v4):=by
 unfold J3
 iterate 5 (refine Below.setCell ?_ (by dsimp only;exact h) _)
 exact dK _ _
theorem Zc(w:Wq)(g:Nat)(v0 v1 v2 v3 v4:dU):(J3 w g v0 v1 v2 v3 v4).heap.size=w.heap.size:=by simp[J3]
theorem G9(h:w.ownsRow lo e size v n xs)(iw:v.ownBlock≠some g)(v0 v1 v2 v3 v4:dU):(J3 w g v0 v1 v2 v3 v4).ownsRow lo e size v n xs:=by
 unfold J3
 iterate 5 (refine dV ?_ iw _)
 exact h
theorem Jf.off{bg:Nat}{l:List Sl}(r:Jf w ao bg l)(g:Nat)(hg:∀ ad,ao=some ad->ad.block≠g)(h:∀ k,k≠g->w'.heap[k]?=w.heap[k]?):Jf w' ao bg l:=by
 refine⟨r.le,r.max,r.nil,?_⟩
 rcases r.at_ with h0|⟨b,o,e,hc⟩
 ·exact .inl h0
 ·by_cases h0:l.length=0
  ·exact .inl h0
  refine .inr ⟨b,o,e,fun i hi=>?_⟩
  have q:∀ x,w'.cell? ⟨b,x,none⟩=w.cell? ⟨b,x,none⟩:=fun x=>World.cell?_of_block (a:=⟨b,x,none⟩) (h b (hg _ e))
  rw[q,q,q,q,q,q]
  exact hc i hi
theorem Dk.off{bg:Nat}{l:List Int}(r:Dk w ao bg l)(g:Nat)(hg:∀ ad,ao=some ad->ad.block≠g)(h:∀ k,k≠g->w'.heap[k]?=w.heap[k]?):Dk w' ao bg l:=by
 refine⟨r.le,r.max,r.nil,?_⟩
 rcases r.at_ with h0|⟨b,o,e,hc⟩
 ·exact .inl h0
 ·by_cases h0:l.length=0
  ·exact .inl h0
  refine .inr ⟨b,o,e,fun i hi=>?_⟩
  rw[World.cell?_of_block (a:=⟨b,o+i,none⟩) (h b (hg _ e))]
  exact hc i hi
theorem At.off{lo g:Nat}{M:Mm}(A:At w aS aH aF aL cS cH cF cL M)(hi:Hi4 lo aS aH aF aL)(hg:g<lo)(h:∀ k,k≠g->w'.heap[k]?=w.heap[k]?):At w' aS aH aF aL cS cH cF cL M :=
 ⟨A.s.off g (fun ad e=>by have:=hi.s ad e;omega) h,A.h.off g (fun ad e=>by have:=hi.h ad e;omega) h,A.f.off g (fun ad e=>by have:=hi.f ad e;omega) h,A.l.off g (fun ad e=>by have:=hi.l ad e;omega) h⟩
structure Rw(w:Wq)(lo:Nat)(aS aH aF aL:Option Addr)(cS cH cF cL:Nat)(M:Mm):Prop where
 s:w.ownsRow lo 64 6 (Y aS M.s.length cS) M.s.length (encS M.s)
 h:w.ownsRow lo 3 1 (Y aH M.h.length cH) M.h.length (encI M.h)
 f:w.ownsRow lo 3 1 (Y aF M.f.length cF) M.f.length (encI M.f)
 l:w.ownsRow lo 3 1 (Y aL M.l.length cL) M.l.length (encI M.l)
 hf:Dj (Y aH M.h.length cH) (Y aF M.f.length cF)
 hl:Dj (Y aH M.h.length cH) (Y aL M.l.length cL)
 fl:Dj (Y aF M.f.length cF) (Y aL M.l.length cL)
 lz:lo<=w.heap.size
theorem Rw.below(r:Rw w lo aS aH aF aL cS cH cF cL M)(hb:Below w.heap.size w w'):Rw w' lo aS aH aF aL cS cH cF cL M :=
 ⟨own_below r.s hb,own_below r.h hb,own_below r.f hb,own_below r.l hb,r.hf,r.hl,r.fl,dQ r.lz hb.size⟩
theorem Rw.J3{B:Nat}{aS aH aF aL:Option Addr}{cS cH cF cL:Nat}{M:Mm}{cs:Array dU}(r:Rw w lo aS aH aF aL cS cH cF cL M)(hB:w.heap[B]?=some (.cells cs Xb.rt (0,0)))(v0 v1 v2 v3 v4:dU):Rw (mm.J3 w B v0 v1 v2 v3 v4) lo aS aH aF aL cS cH cF cL M :=
 ⟨G9 r.s (own_ne r.s hB (by first|decide|exact Ex.ne _ _ (by decide))) _ _ _ _ _,G9 r.h (own_ne r.h hB (by first|decide|exact Ex.ne _ _ (by decide))) _ _ _ _ _,G9 r.f (own_ne r.f hB (by first|decide|exact Ex.ne _ _ (by decide))) _ _ _ _ _,G9 r.l (own_ne r.l hB (by first|decide|exact Ex.ne _ _ (by decide))) _ _ _ _ _,r.hf,r.hl,r.fl,by rw[Zc];exact r.lz⟩
theorem Jf.own(h:w.ownsRow lo 64 6 (Y ao n bg) n (encS S))(hm:S.length*48<=140737488351232):Jf w ao bg S:=by
 obtain⟨a,c,e,r⟩:=Jf.He h hm
 injection e with e1 e2 e3
 subst e1 e3
 exact r
theorem Dk.own(h:w.ownsRow lo 3 1 (Y ao n bg) n (encI l))(hm:l.length*8<=140737488351232):Dk w ao bg l:=by
 obtain⟨a,c,e,r⟩:=Dk.He h hm
 injection e with e1 e2 e3
 subst e1 e3
 exact r
theorem Ri{m bg:Nat}{ao:Option Addr}{e:dX}{xs:List dU}(h:w.ownsRow lo e size (Y ao m bg) n xs):∀ ad,ao=some ad->lo<=ad.block:=by
 rintro ad rfl
 exact(h.lt ad.block rfl).1
theorem Rw.hi(r:Rw w lo aS aH aF aL cS cH cF cL M):Hi4 lo aS aH aF aL :=
 ⟨Ri r.s,Ri r.h,Ri r.f,Ri r.l⟩
theorem Rw.at(r:Rw w lo aS aH aF aL cS cH cF cL M)(m1:M.s.length*48<=140737488351232)(m2:M.h.length*8<=140737488351232)(m3:M.f.length*8<=140737488351232)(m4:M.l.length*8<=140737488351232):At w aS aH aF aL cS cH cF cL M :=
 ⟨.own r.s m1,.own r.h m2,.own r.f m3,.own r.l m4⟩
structure Mine(Xb:Ex)(w:Wq)(B lo:Nat)(aS aH aF aL:Option Addr)(cS cH cF cL:Nat)(M:Mm):Prop where
 box:w.heap[B]?=some (.cells (eG (Y aS M.s.length cS :: Y aH M.h.length cH :: Y aF M.f.length cF :: Y aL M.l.length cL :: O J M.w :: Xb.rs)) Xb.rt (0,0))
 c:Rw w lo aS aH aF aL cS cH cF cL M
 m1:M.s.length*48<=140737488351232
 m2:M.h.length*8<=140737488351232
 m3:M.f.length*8<=140737488351000
 m4:M.l.length*8<=140737488351232
theorem Mine.at(m:Mine Xb w B lo aS aH aF aL cS cH cF cL M):At w aS aH aF aL cS cH cF cL M :=
 m.c.at m.m1 m.m2 (by have:=m.m3;omega) m.m4
theorem Mine.below(m:Mine Xb w B lo aS aH aF aL cS cH cF cL M)(hb:Below w.heap.size w w'):Mine Xb w' B lo aS aH aF aL cS cH cF cL M :=
 ⟨(hb.block _ (lt_of_block m.box)).trans m.box,m.c.below hb,m.m1,m.m2,m.m3,m.m4⟩
structure Kept(w w':Wq)(B lo:Nat):Prop where
 os:w'.os=w.os
 tape:w'.tape=w.tape
 output:w'.output=w.output
 size:w.heap.size<=w'.heap.size
 block:∀ k,k<lo->k≠B->w'.heap[k]?=w.heap[k]?
theorem Kept.trans{w2:Wq}{B lo:Nat}(h:Kept w w1 B lo)(h':Kept w1 w2 B lo):Kept w w2 B lo :=
 ⟨h'.os.trans h.os,h'.tape.trans h.tape,h'.output.trans h.output,dQ h.size h'.size,fun k h1 h2=>(h'.block k h1 h2).trans (h.block k h1 h2)⟩
theorem Kept.of_below(hb:Below n w w')(h:lo<=n):Kept w w' B lo:=⟨hb.os,hb.tape,hb.output,hb.size,fun k h1 h2=>hb.block k (by omega)⟩
theorem Kept.a0c(h:Kept w w1 B lo)(v:dU):Kept w (w1.setCell ⟨B,j,none⟩ v) B lo :=
 h.trans ⟨rfl,rfl,rfl,by simp,fun k h1 h2=>dM _ _ _ _ (by dsimp only;exact h2)⟩
theorem Kept.down(h:Kept w w1 B lo){n:Nat}(h1:n<=lo)(h2:n<=B):Below n w w1 :=
 ⟨h.os,h.tape,h.output,h.size,fun k hk=>h.block k (by omega) (by omega)⟩
theorem Mine.U2(m:Mine Xb w B lo (some ⟨g,0,none⟩) aH aF aL cS cH cF cL M)(j:Nat)(u:dU)(S':List Sl)(hS:(encS M.s).set j u=encS S') :
  Mine Xb (w.setCell ⟨g,j,none⟩ u) B lo (some ⟨g,0,none⟩) aH aF aL cS cH cF cL { M with s:=S' }:=by
 have hl:S'.length=M.s.length:=by
  have:=congrArg List.length hS
  rw[dZ,Ie,Ie] at this
  omega
 obtain⟨hB,⟨s,h,f,l,hf,vF,fl,lz⟩,m1,m2,m3,m4⟩:=m
 have hg:(eX (some ⟨g,0,none⟩) M.s.length cS).ownBlock=some g:=rfl
 have ne:∀ {v:dU} {n:Nat} {xs:List dU},w.ownsRow lo 3 1 v n xs->v.ownBlock≠some g:=fun h e=>D9 h s (by first|decide|exact Ex.ne _ _ (by decide)) g e hg
 refine⟨?_,⟨?_,dV h (ne h) u,dV f (ne f) u,dV l (ne l) u,hf,vF,fl,by rw[eQ];exact lz⟩,by dsimp only;omega,m2,m3,m4⟩
 ·dsimp only
  rw[dM _ _ _ _ (by dsimp only;intro e;exact own_ne s hB (by first|decide|exact Ex.ne _ _ (by decide)) (by rw[hg,e])),hl]
  exact hB
 ·dsimp only
  rw[hl,<- hS]
  exact(s.stored j u).1
theorem Mine.setH(m:Mine Xb w B lo aS (some ⟨g,0,none⟩) aF aL cS cH cF cL M)(j:Nat)(x:Int) :
  Mine Xb (w.setCell ⟨g,j,none⟩ (O J x)) B lo aS (some ⟨g,0,none⟩) aF aL cS cH cF cL { M with h:=M.h.set j x }:=by
 obtain⟨hB,⟨s,h,f,l,hf,hl,fl,lz⟩,m1,m2,m3,m4⟩:=m
 have hg:(eX (some ⟨g,0,none⟩) M.h.length cH).ownBlock=some g:=rfl
 have ns:(eX aS M.s.length cS).ownBlock≠some g:=fun e=>D9 s h (by first|decide|exact Ex.ne _ _ (by decide)) g e hg
 refine⟨?_,⟨dV s ns _,?_,dV f (fun e=>hf g hg e) _,dV l (fun e=>hl g hg e) _,U7 hf,U7 hl,fl,by rw[eQ];exact lz⟩,m1,by dsimp only;rw[dZ];exact m2,m3,m4⟩
 ·dsimp only
  rw[dM _ _ _ _ (by dsimp only;intro e;exact own_ne h hB (by first|decide|exact Ex.ne _ _ (by decide)) (by rw[hg,e])),dZ]
  exact hB
 ·dsimp only
  have e:encI (M.h.set j x)=(encI M.h).set j (O J x):=by simp[encI,List.map_set]
  rw[dZ,e]
  exact(h.stored j _).1
theorem Mine.Nq(m:Mine Xb w B lo aS aH aF (some ⟨g,0,none⟩) cS cH cF cL M)(j:Nat)(x:Int) :
  Mine Xb (w.setCell ⟨g,j,none⟩ (O J x)) B lo aS aH aF (some ⟨g,0,none⟩) cS cH cF cL { M with l:=M.l.set j x }:=by
 obtain⟨hB,⟨s,h,f,l,hf,hl,fl,lz⟩,m1,m2,m3,m4⟩:=m
 have hg:(eX (some ⟨g,0,none⟩) M.l.length cL).ownBlock=some g:=rfl
 have ns:(eX aS M.s.length cS).ownBlock≠some g:=fun e=>D9 s l (by first|decide|exact Ex.ne _ _ (by decide)) g e hg
 refine⟨?_,⟨dV s ns _,dV h (fun e=>hl g e hg) _,dV f (fun e=>fl g e hg) _,?_,hf,U7 hl,U7 fl,by rw[eQ];exact lz⟩,m1,m2,m3,by dsimp only;rw[dZ];exact m4⟩
 ·dsimp only
  rw[dM _ _ _ _ (by dsimp only;intro e;exact own_ne l hB (by first|decide|exact Ex.ne _ _ (by decide)) (by rw[hg,e])),dZ]
  exact hB
 ·dsimp only
  have e:encI (M.l.set j x)=(encI M.l).set j (O J x):=by simp[encI,List.map_set]
  rw[dZ,e]
  exact(l.stored j _).1
theorem Mine.pop{n:Nat}{aS aH aL:Option Addr}{cS cH cF cL:Nat}{M:Mm}(m:Mine Xb w B lo aS aH (some ⟨g,0,none⟩) aL cS cH cF cL M)(hn:M.f.length=n+1) :
  Mine Xb (w.setCell ⟨B,2,none⟩ (Y (some ⟨g,0,none⟩) n cF)) B lo aS aH (some ⟨g,0,none⟩) aL cS cH cF cL { M with f:=M.f.take n }:=by
 obtain⟨hB,⟨s,h,f,l,hf,hl,fl,lz⟩,m1,m2,m3,m4⟩:=m
 have jb:(M.f.take n).length=n:=by rw[List.length_take];omega
 refine⟨?_,⟨dV s (own_ne s hB (by first|decide|exact Ex.ne _ _ (by decide))) _,dV h (own_ne h hB (by first|decide|exact Ex.ne _ _ (by decide))) _,?_,dV l (own_ne l hB (by first|decide|exact Ex.ne _ _ (by decide))) _,U7 hf,hl,U7 fl,by rw[eQ];exact lz⟩,m1,m2,by dsimp only;omega,m4⟩
 ·dsimp only
  rw[jb]
  have:=dO (i:=2) hB (Y (some ⟨g,0,none⟩) n cF)
  simpa using this
 ·dsimp only
  rw[jb]
  have fn:=own_ne f hB (by first|decide|exact Ex.ne _ _ (by decide))
  refine dV ?_ fn _
  rw[hn] at f
  refine ownsRow_pop (last:=encI (M.f.drop n)) (by simp[encI];omega) ?_
  rw[show encI (M.f.take n)++encI (M.f.drop n)=encI M.f by simp[encI]]
  exact f
end
section
variable {Xb:Ex}
structure Env(w0 w:Wq)(L:List (Nat × Obj))(K:List (dU × Mm)):Prop where
 bl:Below w0.heap.size w0 w
 box:∀ p∈L,w.heap[p.1]?=some p.2
 mem:∀ p∈K,Ans 0 w p.1 p.2
theorem Env.below(E:Env w0 w L K)(hb:Below w.heap.size w w'):Env w0 w' L K :=
 ⟨E.bl.trans (hb.mono E.bl.size),fun p hp=>(hb.block p.1 (by
  have:=E.box p hp
  exact(Array.getElem?_eq_some_iff.1 this).1)).trans (E.box p hp),fun p hp=>(E.mem p hp).below hb⟩
theorem Env.alloc(E:Env w0 w L K)(o:Obj):Env w0 (w.alloc o) ((w.heap.size,o) :: L) K:=by
 have h:=E.below (A7 w o)
 refine⟨h.bl,fun p hp=>?_,h.mem⟩
 rcases aZ.1 hp with rfl|hp
 ·exact heap_alloc_new w o
 ·exact h.box p hp
theorem Env.lt(E:Env w0 w L K){B:Nat}{o:Obj}(h:(B,o)∈L):B<w.heap.size:=(Array.getElem?_eq_some_iff.1 (E.box _ h)).1
end
end Go.Proofs.YthhgoenomehobaaGreat.mm
