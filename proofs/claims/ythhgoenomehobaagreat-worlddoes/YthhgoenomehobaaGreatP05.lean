/- Parts. -/
import Derived.Test.YthhgoenomehobaaGreatP04
import Derived.Lib.SmallJoins
import Derived.Lib.BufferMore
import Derived.Maps.AppendAt
import Derived.WalkSmall
namespace Go.Proofs.YthhgoenomehobaaGreat.mm
set_option maxRecDepth 100000
set_option linter.unusedVariables false
open Go.Value renaming int → O, slice → Y
open Go.IntKind renaming i64 → J
open Go.Proofs.Tryz renaming prog → Pg
open Go renaming World → Wq
open Go.ChangeShapes Go.WideShapes Go.ChangeAt Go.RowKit Go.Joins
set_option maxHeartbeats 800000
section
def Sl.enc(s:Sl):List Value:=[O J s.refs,O J s.a,O J s.b,O J s.unt,.bool s.inn,O J s.next]
def encS(l:List Sl):List Value:=l.flatMap Sl.enc
def encI(l:List Int):List Value:=l.map (Value.int .i64)
theorem Dw(s:Sl)(l:List Sl):encS (s :: l)=s.enc++encS l:=by simp[encS]
theorem Hm(l:List Sl):(encS l).length=l.length*6:=by
 induction l with
 | nil=>rfl
 | cons s l ih=>rw[Dw,List.length_append,ih];simp[Sl.enc];omega
theorem Dq(l:List Int):(encI l).length=l.length:=by simp[encI]
theorem Qn(l:List Sl)(i q:Nat)(h:i<l.length)(hq:q<6):(encS l)[i*6+q]?=(l[i].enc)[q]?:=by
 induction l generalizing i with
 | nil=>simp at h
 | cons s l ih =>
  rw[Dw]
  match i with
  | 0 =>
   rw[List.getElem?_append_left (by simp[Sl.enc];omega)]
   simp
  | i+1 =>
   rw[List.getElem?_append_right (by simp[Sl.enc];omega)]
   have hl:s.enc.length=6:=rfl
   rw[hl,show (i+1)*6+q - 6=i*6+q by omega,ih i (by simpa using h)]
   simp
theorem Yw(l:List Sl):∀ u∈encS l,u.oneCell'=true:=by
 intro u hu
 simp only[encS,List.mem_flatMap,Sl.enc,List.mem_cons,List.not_mem_nil,or_false] at hu
 obtain⟨s,_,h|h|h|h|h|h⟩:=hu <;> (subst h;rfl)
theorem Gp(l:List Int):∀ u∈encI l,u.oneCell'=true:=by
 intro u hu
 simp only[encI,List.mem_map] at hu
 obtain⟨s,_,rfl⟩:=hu;rfl
theorem Ic.flat{w:Wq}{b o cap:Nat}{S:List Sl}(r:Ic w (some ⟨b,o,none⟩) cap S):∀ j u,(encS S)[j]?=some u->w.cell? ((⟨b,o,none⟩:Addr).add j)=some u:=by
 intro j u hu
 have hj:j<S.length*6:=by
  rw[<- Hm]
  exact(List.getElem?_eq_some_iff.1 hu).1
 rcases r.at_ with h0|⟨b',o',e,hc⟩
 ·omega
 cases e
 have hi:j / 6<S.length:=by omega
 have e6:j / 6*6+j % 6=j:=by omega
 have hq:j % 6<6:=by omega
 obtain⟨c0,c1,c2,c3,c4,c5⟩:=hc (j / 6) hi
 rw[<- e6,Qn S _ _ hi hq] at hu
 rw[Addr.add_lit,<- e6]
 generalize j / 6=i at *
 generalize j % 6=q at *
 rw[<- Nat.add_assoc]
 simp only[Sl.enc] at hu
 match q,hq with
 | 0,_=>simp at hu;subst hu;exact c0
 | 1,_=>simp at hu;subst hu;exact c1
 | 2,_=>simp at hu;subst hu;exact c2
 | 3,_=>simp at hu;subst hu;exact c3
 | 4,_=>simp at hu;subst hu;exact c4
 | 5,_=>simp at hu;subst hu;exact c5
theorem Cj.flat{w:Wq}{b o cap:Nat}{l:List Int}(r:Cj w (some ⟨b,o,none⟩) cap l):∀ j u,(encI l)[j]?=some u->w.cell? ((⟨b,o,none⟩:Addr).add j)=some u:=by
 intro j u hu
 have hj:j<l.length:=by
  rw[<- Dq]
  exact(List.getElem?_eq_some_iff.1 hu).1
 rcases r.at_ with h0|⟨b',o',e,hc⟩
 ·omega
 cases e
 simp only[encI,List.getElem?_map,List.getElem?_eq_getElem hj,Option.map_some,Option.some.injEq] at hu
 subst hu
 rw[Addr.add_lit]
 exact hc j hj
theorem Ic.src{w:Wq}{ao:Option Addr}{cap:Nat}{S:List Sl}(r:Ic w ao cap S):∀ ad,ao=some ad->∀ j u,(encS S)[j]?=some u->w.cell? (ad.add j)=some u:=by
 rintro ad rfl j u hu
 rcases r.at_ with h0|⟨b,o,e,hc⟩
 ·have:=(List.getElem?_eq_some_iff.1 hu).1
  rw[Hm] at this
  omega
 ·cases e
  exact r.flat j u hu
theorem Cj.src{w:Wq}{ao:Option Addr}{cap:Nat}{l:List Int}(r:Cj w ao cap l):∀ ad,ao=some ad->∀ j u,(encI l)[j]?=some u->w.cell? (ad.add j)=some u:=by
 rintro ad rfl j u hu
 rcases r.at_ with h0|⟨b,o,e,hc⟩
 ·have:=(List.getElem?_eq_some_iff.1 hu).1
  rw[Dq] at this
  omega
 ·cases e
  exact r.flat j u hu
theorem Ic.O7{w:Wq}{b cap:Nat}{S:List Sl}(hl:S.length<=cap)(hm:S.length*48<=140737488351232)(hc:∀ j,j<S.length*6->w.cell? ⟨b,j,none⟩=(encS S)[j]?):Ic w (some ⟨b,0,none⟩) cap S:=by
 refine⟨hl,hm,(fun h=>by cases h),.inr ⟨b,0,rfl,fun i hi=>?_⟩⟩
 have e:∀ q,q<6->w.cell? ⟨b,0+i*6+q,none⟩=(S[i].enc)[q]?:=fun q hq=>by
  rw[Nat.zero_add,hc _ (by omega),Qn S i q hi hq]
 exact⟨e 0 (by omega),e 1 (by omega),e 2 (by omega),e 3 (by omega),e 4 (by omega),e 5 (by omega)⟩
theorem Cj.O7{w:Wq}{b cap:Nat}{l:List Int}(hl:l.length<=cap)(hm:l.length*8<=140737488351232)(hc:∀ j,j<l.length->w.cell? ⟨b,j,none⟩=(encI l)[j]?):Cj w (some ⟨b,0,none⟩) cap l:=by
 refine⟨hl,hm,(fun h=>by cases h),.inr ⟨b,0,rfl,fun i hi=>?_⟩⟩
 rw[Nat.zero_add,hc i hi]
 simp[encI,hi]
theorem Ic.Kr{w:Wq}{base n:Nat}{v:Value}{S:List Sl}(h:w.ownsRow base 64 6 v n (encS S))(hm:S.length*48<=140737488351232):∃ ao cap,v=Y ao S.length cap/\Ic w ao cap S:=by
 have hl:=h.1
 rw[Hm] at hl
 have hn:S.length=n:=by omega
 subst hn
 rcases h.2 with ⟨rfl,h0⟩|⟨g,cap,cur,rfl,hg,hb,hc,-,hs,ht⟩
 ·exact⟨none,0,by rw[h0],by omega,hm,fun _=>rfl,.inl h0⟩
 ·exact⟨_,_,rfl,.O7 hc hm fun j hj=>h.cellAt j hj⟩
theorem Cj.Kr{w:Wq}{base n:Nat}{v:Value}{l:List Int}(h:w.ownsRow base 3 1 v n (encI l))(hm:l.length*8<=140737488351232):∃ ao cap,v=Y ao l.length cap/\Cj w ao cap l:=by
 have hl:=h.1
 rw[Dq] at hl
 have hn:l.length=n:=by omega
 subst hn
 rcases h.2 with ⟨rfl,h0⟩|⟨g,cap,cur,rfl,hg,hb,hc,-,hs,ht⟩
 ·exact⟨none,0,by rw[h0],by omega,hm,fun _=>rfl,.inl h0⟩
 ·exact⟨_,_,rfl,.O7 hc hm fun j hj=>h.cellAt j (by omega)⟩
theorem iI:(Pg.info? 3).map (fun i=>(i.zero,i.size,i.bytes))=some (some (O J 0),1,8):=by kernel_rfl
theorem iS:(Pg.info? 64).map (fun i=>(i.zero,i.size,i.bytes))=some (some (.agg #[O J 0,O J 0,O J 0,O J 0,.bool false,O J 0]),6,48):=by kernel_rfl
theorem own_below{w w':Wq}{lo size n:Nat}{e:TypeId}{v:Value}{xs:List Value}(h:w.ownsRow lo e size v n xs)(hb:Below w.heap.size w w'):w'.ownsRow lo e size v n xs :=
 h.kept (row:=none) ⟨hb.os,hb.tape,hb.output,hb.size,fun k hk _=>hb.block k hk⟩ (by cases hv:v.ownBlock <;> simp)
theorem a1c(ad:Addr)(cap:Nat)(l:List Int)(w:Wq)(r:Cj w (some ad) cap l) :
  Calls Pg 103 #[Y (some ad) l.length cap] w fun e w'=>e=.returned (Y (some ⟨w.heap.size,0,none⟩) l.length l.length)/\w'.ownsRow w.heap.size 3 1 (Y (some ⟨w.heap.size,0,none⟩) l.length l.length) l.length (encI l)/\Below w.heap.size w w':=by
 obtain⟨i0,hi,hz0,hz1,hz2⟩:=info_parts iI
 have m1:=r.max
 have m2:=r.le
 have HS:Hid _:=r.src
 have HN:Hid _:=r.nil
 clear r
 have q24:∀ (w:Wq) (a:Option Addr) (n c:Nat),(binOp .eql 23 (Y a n c) (Y none 0 0)).run Pg w=.ok (.bool a.isNone) w:=fun w a n c=>Lib.run_eql_slice_nil w _ _ a n c 0 0 Tryz.underlying23
 go_enter Tryz.func103,Tryz.ntmps103
 go_wp2_with (first
  | (at_make;refine wpList_make_own _ rfl _ _ 23 rfl w.heap.size 3 i0 (O J 0) 1 Tryz.underlying23 hi hz0 hz1 .i64 .i64 _ l.length rfl rfl rfl (by rw[hz2];omega) (by unfold maxLen;omega) (Nat.le_refl _) ?_;intro w1 hown hgrow)
  | (at_builtin;refine wpList_append_fits_any _ rfl _ _ 23 rfl w.heap.size 3 i0 1 Tryz.underlying23 hi hz1 w.heap.size 0 l.length _ rfl hown (some ad) l.length cap (encI l) rfl (by rw[Dq];omega) (fun h=>by have:=HN.out h;omega) (fun ad h j u hj=>hgrow.cell (HS.out ad h j u hj) (by intro hh;cases hh)) (Gp l) (by omega) ?_;intro w2 hown2 hgrow2))
 go_ret
 simp only[Nat.zero_add,List.nil_append] at hown2
 refine⟨by simp,hown2,?_⟩
 have:=((Below.refl w.heap.size w).grown hgrow (Nat.le_refl _) (fun k h=>by cases h))
 exact this.grown hgrow2 hgrow.size (fun k h=>by cases h;exact Nat.le_refl _)
theorem a1e(ad:Addr)(cap:Nat)(l:List Sl)(w:Wq)(r:Ic w (some ad) cap l) :
  Calls Pg 141 #[Y (some ad) l.length cap] w fun e w'=>e=.returned (Y (some ⟨w.heap.size,0,none⟩) l.length l.length)/\w'.ownsRow w.heap.size 64 6 (Y (some ⟨w.heap.size,0,none⟩) l.length l.length) l.length (encS l)/\Below w.heap.size w w':=by
 obtain⟨i0,hi,hz0,hz1,hz2⟩:=info_parts iS
 have m1:=r.max
 have m2:=r.le
 have HS:Hid _:=r.src
 have HN:Hid _:=r.nil
 clear r
 have q27:∀ (w:Wq) (a:Option Addr) (n c:Nat),(binOp .eql 22 (Y a n c) (Y none 0 0)).run Pg w=.ok (.bool a.isNone) w:=fun w a n c=>Lib.run_eql_slice_nil w _ _ a n c 0 0 Tryz.underlying22
 go_enter Tryz.func141,Tryz.ntmps141
 go_wp2_with (first
  | (at_make;refine wpList_make_own _ rfl _ _ 22 rfl w.heap.size 64 i0 (.agg #[O J 0,O J 0,O J 0,O J 0,.bool false,O J 0]) 6 Tryz.underlying22 hi hz0 hz1 .i64 .i64 _ l.length rfl rfl rfl (by rw[hz2];omega) (by unfold maxLen;omega) (Nat.le_refl _) ?_;intro w1 hown hgrow)
  | (at_builtin;refine wpList_append_fits_any _ rfl _ _ 22 rfl w.heap.size 64 i0 6 Tryz.underlying22 hi hz1 w.heap.size 0 l.length _ rfl hown (some ad) l.length cap (encS l) rfl (Hm l) (fun h=>by have:=HN.out h;omega) (fun ad h j u hj=>hgrow.cell (HS.out ad h j u hj) (by intro hh;cases hh)) (Yw l) (by omega) ?_;intro w2 hown2 hgrow2))
 go_ret
 simp only[Nat.zero_add,List.nil_append] at hown2
 refine⟨by simp,hown2,?_⟩
 have:=((Below.refl w.heap.size w).grown hgrow (Nat.le_refl _) (fun k h=>by cases h))
 exact this.grown hgrow2 hgrow.size (fun k h=>by cases h;exact Nat.le_refl _)
theorem a1b(w:Wq):Calls Pg 103 #[Y none 0 0] w fun e w'=>e=.returned (Y none 0 0)/\w=w':=by
 have q24:∀ (w:Wq) (a:Option Addr) (n c:Nat),(binOp .eql 23 (Y a n c) (Y none 0 0)).run Pg w=.ok (.bool a.isNone) w:=fun w a n c=>Lib.run_eql_slice_nil w _ _ a n c 0 0 Tryz.underlying23
 go_enter Tryz.func103,Tryz.ntmps103
 go_wp2
 go_ret
 exact⟨rfl,rfl⟩
theorem a1d(w:Wq):Calls Pg 141 #[Y none 0 0] w fun e w'=>e=.returned (Y none 0 0)/\w=w':=by
 have q27:∀ (w:Wq) (a:Option Addr) (n c:Nat),(binOp .eql 22 (Y a n c) (Y none 0 0)).run Pg w=.ok (.bool a.isNone) w:=fun w a n c=>Lib.run_eql_slice_nil w _ _ a n c 0 0 Tryz.underlying22
 go_enter Tryz.func141,Tryz.ntmps141
 go_wp2
 go_ret
 exact⟨rfl,rfl⟩
theorem Oi(ao:Option Addr)(cap:Nat)(l:List Int)(w:Wq)(r:Cj w ao cap l) :
  Calls Pg 103 #[Y ao l.length cap] w fun e w'=>∃ a c,e=.returned (Y a l.length c)/\w'.ownsRow w.heap.size 3 1 (Y a l.length c) l.length (encI l)/\Below w.heap.size w w':=by
 cases ao with
 | some ad =>
  refine(a1c ad cap l w r).mono ?_
  rintro e w' ⟨rfl,h1,h2⟩
  exact⟨_,_,rfl,h1,h2⟩
 | none =>
  have hc:=r.nil rfl
  have hl:l=[]:=List.eq_nil_of_length_eq_zero (by have:=r.le;omega)
  subst hc hl
  refine(a1b w).mono ?_
  rintro e w' ⟨rfl,rfl⟩
  exact⟨_,_,rfl,World.ownsRow_nil _ _ _ _,Below.refl _ _⟩
theorem a4x(ao:Option Addr)(cap:Nat)(l:List Sl)(w:Wq)(r:Ic w ao cap l) :
  Calls Pg 141 #[Y ao l.length cap] w fun e w'=>∃ a c,e=.returned (Y a l.length c)/\w'.ownsRow w.heap.size 64 6 (Y a l.length c) l.length (encS l)/\Below w.heap.size w w':=by
 cases ao with
 | some ad =>
  refine(a1e ad cap l w r).mono ?_
  rintro e w' ⟨rfl,h1,h2⟩
  exact⟨_,_,rfl,h1,h2⟩
 | none =>
  have hc:=r.nil rfl
  have hl:l=[]:=List.eq_nil_of_length_eq_zero (by have:=r.le;omega)
  subst hc hl
  refine(a1d w).mono ?_
  rintro e w' ⟨rfl,rfl⟩
  exact⟨_,_,rfl,World.ownsRow_nil _ _ _ _,Below.refl _ _⟩
end
section
structure Ex where
 rs:List Value
 rt:TypeId
 ne:∀ t ∈ [(3:TypeId),64 ,30 ,47 ,61 ],t≠rt
variable {Xb:Ex}
@[reducible] def X0:Ex:=⟨[],25,by decide⟩
theorem Af{w:Wq}{B:Nat}{v0 v1 v2 v3 v4:Value}{rs:List Value}{t:TypeId}(h:w.heap[B]?=some (.cells (List.toArray (v0 :: v1 :: v2 :: v3 :: v4 :: rs)) t (0,0))) :
  w.cell? ⟨B,0,none⟩=some v0/\w.cell? ⟨B,1,none⟩=some v1/\w.cell? ⟨B,2,none⟩=some v2/\w.cell? ⟨B,3,none⟩=some v3/\w.cell? ⟨B,4,none⟩=some v4 /\
  w.frozen? ⟨B,0,none⟩=false/\w.frozen? ⟨B,1,none⟩=false/\w.frozen? ⟨B,2,none⟩=false/\w.frozen? ⟨B,3,none⟩=false/\w.frozen? ⟨B,4,none⟩=false/\B<w.heap.size :=
 ⟨by rw[cell_of_block h];rfl,by rw[cell_of_block h];rfl,by rw[cell_of_block h];rfl,by rw[cell_of_block h];rfl,by rw[cell_of_block h];rfl,
  unfrozen_of_block h _,unfrozen_of_block h _,unfrozen_of_block h _,unfrozen_of_block h _,unfrozen_of_block h _,lt_of_block h⟩
def Dj(v v':Value):Prop:=∀ g,v.ownBlock=some g->v'.ownBlock≠some g
theorem Dj.symm{v v':Value}(h:Dj v v'):Dj v' v:=fun g e e'=>h g e' e
theorem Aq{w:Wq}{lo size n:Nat}{e:TypeId}{v:Value}{xs:List Value}(h:w.ownsRow lo e size v n xs):∃ ao cap,v=Y ao n cap:=by
 rcases ownsRow_forms h with ⟨rfl,rfl⟩|⟨g,cap,rfl⟩
 ·exact⟨_,_,rfl⟩
 ·exact⟨_,_,rfl⟩
theorem a1i{w:Wq}{lo size n g:Nat}{e:TypeId}{v:Value}{xs:List Value}(h:w.ownsRow lo e size v n xs)(hg:v.ownBlock=some g):∃ cur,w.heap[g]?=some (.cells cur e (0,0)):=by
 rcases h.2 with ⟨rfl,_⟩|⟨g',cap,cur,rfl,_,hb,_⟩
 ·cases hg
 ·cases hg
  exact⟨_,hb⟩
theorem own_ne{w:Wq}{lo size n B:Nat}{e t:TypeId}{v:Value}{xs:List Value}{cs:Array Value}(h:w.ownsRow lo e size v n xs)(hB:w.heap[B]?=some (.cells cs t (0,0)))(ne:e≠t):v.ownBlock≠some B:=by
 intro hg
 obtain⟨cur,hc⟩:=a1i h hg
 rw[hB] at hc
 injection hc with hc
 injection hc with _ hc
 exact ne hc.symm
theorem Cf{w:Wq}{lo size n lo' size' n':Nat}{e e':TypeId}{v v':Value}{xs xs':List Value}(h:w.ownsRow lo e size v n xs)(h':w.ownsRow lo' e' size' v' n' xs')(ne:e≠e'):Dj v v':=by
 intro g hg hg'
 obtain⟨cur,hc⟩:=a1i h hg
 exact own_ne h' hc (Ne.symm ne) hg'
theorem Dj.grown{w:Wq}{v u u':Value}(h:Dj v u)(hv:∀ g,v.ownBlock=some g->g<w.heap.size)(hloc:u'.ownBlock=u.ownBlock\/u'.ownBlock=some w.heap.size):Dj v u':=by
 intro g hg hg'
 rcases hloc with e|e
 ·exact h g hg (e ▸ hg')
 ·have:=hv g hg
  rw[e] at hg'
  injection hg' with hg'
  omega
theorem Dj.ne{v u:Value}(h:Dj v u):v.ownBlock=none\/v.ownBlock≠u.ownBlock:=by
 cases hv:v.ownBlock with
 | none=>exact .inl rfl
 | some g=>exact .inr (fun e=>h g hv e.symm)
theorem Ru{a b:Option Addr}{n c m d n' c' m' d':Nat}(h:Dj (Y a n c) (Y b m d)):Dj (Y a n' c') (Y b m' d'):=by
 cases a <;> cases b <;> exact h
structure Hi4(lo:Nat)(aS aH aF aL:Option Addr):Prop where
 s:∀ ad,aS=some ad->lo<=ad.block
 h:∀ ad,aH=some ad->lo<=ad.block
 f:∀ ad,aF=some ad->lo<=ad.block
 l:∀ ad,aL=some ad->lo<=ad.block
theorem b1b{lo g:Nat}(h:lo<=g):∀ ad,(some ⟨g,0,none⟩:Option Addr)=some ad->lo<=ad.block:=by
 rintro ad ⟨⟩
 exact h
def Ans(lo:Nat)(w:Wq)(v:Value)(M:Mm):Prop :=
 ∃ aS aH aF aL cS cH cF cL,v=.agg #[Y aS M.slots.length cS,Y aH M.heads.length cH,Y aF M.free.length cF,Y aL M.locks.length cL,O J M.now]/\At w aS aH aF aL cS cH cF cL M/\Hi4 lo aS aH aF aL
theorem Hi4.mono{lo lo':Nat}{aS aH aF aL:Option Addr}(h:Hi4 lo aS aH aF aL)(hl:lo'<=lo):Hi4 lo' aS aH aF aL :=
 ⟨fun a e=>Nat.le_trans hl (h.s a e),fun a e=>Nat.le_trans hl (h.h a e),fun a e=>Nat.le_trans hl (h.f a e),fun a e=>Nat.le_trans hl (h.l a e)⟩
theorem Ans.below{lo:Nat}{w w':Wq}{v:Value}{M:Mm}(h:Ans lo w v M)(hb:Below w.heap.size w w'):Ans lo w' v M:=by
 obtain⟨aS,aH,aF,aL,cS,cH,cF,cL,e,A,hi⟩:=h
 exact⟨aS,aH,aF,aL,cS,cH,cF,cL,e,A.below hb,hi⟩
theorem Ans.mono{lo lo':Nat}{w:Wq}{v:Value}{M:Mm}(h:Ans lo w v M)(hl:lo'<=lo):Ans lo' w v M:=by
 obtain⟨aS,aH,aF,aL,cS,cH,cF,cL,e,A,hi⟩:=h
 exact⟨aS,aH,aF,aL,cS,cH,cF,cL,e,A,hi.mono hl⟩
def Hu(w:Wq)(g:Nat)(v0 v1 v2 v3 v4:Value):Wq :=
 ((((w.setCell ⟨g,0,none⟩ v0).setCell ⟨g,1,none⟩ v1).setCell ⟨g,2,none⟩ v2).setCell ⟨g,3,none⟩ v3).setCell ⟨g,4,none⟩ v4
theorem Qa{w:Wq}{g:Nat}{u0 u1 u2 u3 u4:Value}{rs:List Value}{t:TypeId}(h:w.heap[g]?=some (.cells (List.toArray (u0 :: u1 :: u2 :: u3 :: u4 :: rs)) t (0,0)))(v0 v1 v2 v3 v4:Value):(Hu w g v0 v1 v2 v3 v4).heap[g]?=some (.cells (List.toArray (v0 :: v1 :: v2 :: v3 :: v4 :: rs)) t (0,0)):=by
 have:=block_setCell (i:=4) (block_setCell (i:=3) (block_setCell (i:=2) (block_setCell (i:=1) (block_setCell (i:=0) h v0) v1) v2) v3) v4
 rw[Hu,this]
 simp
theorem Mc{w:Wq}{g k:Nat}{v0 v1 v2 v3 v4:Value}(h:k≠g):(Hu w g v0 v1 v2 v3 v4).heap[k]?=w.heap[k]?:=by
 unfold Hu
 repeat rw[Below.heap_setCell _ _ _ _ (by dsimp only;exact h)]
theorem Jl(w:Wq)(g B:Nat)(v0 v1 v2 v3 v4:Value)(h:B<=g):Below B w (Hu w g v0 v1 v2 v3 v4):=by
 unfold Hu
 iterate 5 (refine Below.setCell ?_ (by dsimp only;exact h) _)
 exact Below.refl _ _
theorem Xq(w:Wq)(g:Nat)(v0 v1 v2 v3 v4:Value):(Hu w g v0 v1 v2 v3 v4).heap.size=w.heap.size:=by simp[Hu]
theorem Fb{w:Wq}{lo size n g:Nat}{e:TypeId}{v:Value}{xs:List Value}(h:w.ownsRow lo e size v n xs)(hne:v.ownBlock≠some g)(v0 v1 v2 v3 v4:Value):(Hu w g v0 v1 v2 v3 v4).ownsRow lo e size v n xs:=by
 unfold Hu
 iterate 5 (refine ownsRow_setCell_other ?_ hne _)
 exact h
theorem Ic.off{w w':Wq}{ao:Option Addr}{cap:Nat}{l:List Sl}(r:Ic w ao cap l)(g:Nat)(hg:∀ ad,ao=some ad->ad.block≠g)(h:∀ k,k≠g->w'.heap[k]?=w.heap[k]?):Ic w' ao cap l:=by
 refine⟨r.le,r.max,r.nil,?_⟩
 rcases r.at_ with h0|⟨b,o,e,hc⟩
 ·exact .inl h0
 ·by_cases h0:l.length=0
  ·exact .inl h0
  refine .inr ⟨b,o,e,fun i hi=>?_⟩
  have q:∀ x,w'.cell? ⟨b,x,none⟩=w.cell? ⟨b,x,none⟩:=fun x=>World.cell?_of_block (a:=⟨b,x,none⟩) (h b (hg _ e))
  rw[q,q,q,q,q,q]
  exact hc i hi
theorem Cj.off{w w':Wq}{ao:Option Addr}{cap:Nat}{l:List Int}(r:Cj w ao cap l)(g:Nat)(hg:∀ ad,ao=some ad->ad.block≠g)(h:∀ k,k≠g->w'.heap[k]?=w.heap[k]?):Cj w' ao cap l:=by
 refine⟨r.le,r.max,r.nil,?_⟩
 rcases r.at_ with h0|⟨b,o,e,hc⟩
 ·exact .inl h0
 ·by_cases h0:l.length=0
  ·exact .inl h0
  refine .inr ⟨b,o,e,fun i hi=>?_⟩
  rw[World.cell?_of_block (a:=⟨b,o+i,none⟩) (h b (hg _ e))]
  exact hc i hi
theorem At.off{w w':Wq}{aS aH aF aL:Option Addr}{cS cH cF cL lo g:Nat}{M:Mm}(A:At w aS aH aF aL cS cH cF cL M)(hi:Hi4 lo aS aH aF aL)(hg:g<lo)(h:∀ k,k≠g->w'.heap[k]?=w.heap[k]?):At w' aS aH aF aL cS cH cF cL M :=
 ⟨A.s.off g (fun ad e=>by have:=hi.s ad e;omega) h,A.h.off g (fun ad e=>by have:=hi.h ad e;omega) h,A.f.off g (fun ad e=>by have:=hi.f ad e;omega) h,A.l.off g (fun ad e=>by have:=hi.l ad e;omega) h⟩
structure Rw(w:Wq)(lo:Nat)(aS aH aF aL:Option Addr)(cS cH cF cL:Nat)(M:Mm):Prop where
 s:w.ownsRow lo 64 6 (Y aS M.slots.length cS) M.slots.length (encS M.slots)
 h:w.ownsRow lo 3 1 (Y aH M.heads.length cH) M.heads.length (encI M.heads)
 f:w.ownsRow lo 3 1 (Y aF M.free.length cF) M.free.length (encI M.free)
 l:w.ownsRow lo 3 1 (Y aL M.locks.length cL) M.locks.length (encI M.locks)
 hf:Dj (Y aH M.heads.length cH) (Y aF M.free.length cF)
 hl:Dj (Y aH M.heads.length cH) (Y aL M.locks.length cL)
 fl:Dj (Y aF M.free.length cF) (Y aL M.locks.length cL)
 lz:lo<=w.heap.size
theorem Rw.below{w w':Wq}{lo:Nat}{aS aH aF aL:Option Addr}{cS cH cF cL:Nat}{M:Mm}(r:Rw w lo aS aH aF aL cS cH cF cL M)(hb:Below w.heap.size w w'):Rw w' lo aS aH aF aL cS cH cF cL M :=
 ⟨own_below r.s hb,own_below r.h hb,own_below r.f hb,own_below r.l hb,r.hf,r.hl,r.fl,Nat.le_trans r.lz hb.size⟩
theorem Rw.Hu{w:Wq}{lo B:Nat}{aS aH aF aL:Option Addr}{cS cH cF cL:Nat}{M:Mm}{cs:Array Value}(r:Rw w lo aS aH aF aL cS cH cF cL M)(hB:w.heap[B]?=some (.cells cs Xb.rt (0,0)))(v0 v1 v2 v3 v4:Value):Rw (mm.Hu w B v0 v1 v2 v3 v4) lo aS aH aF aL cS cH cF cL M :=
 ⟨Fb r.s (own_ne r.s hB (by first|decide|exact Ex.ne _ _ (by decide))) _ _ _ _ _,Fb r.h (own_ne r.h hB (by first|decide|exact Ex.ne _ _ (by decide))) _ _ _ _ _,Fb r.f (own_ne r.f hB (by first|decide|exact Ex.ne _ _ (by decide))) _ _ _ _ _,Fb r.l (own_ne r.l hB (by first|decide|exact Ex.ne _ _ (by decide))) _ _ _ _ _,r.hf,r.hl,r.fl,by rw[Xq];exact r.lz⟩
theorem Ic.own{w:Wq}{lo n cap:Nat}{ao:Option Addr}{S:List Sl}(h:w.ownsRow lo 64 6 (Y ao n cap) n (encS S))(hm:S.length*48<=140737488351232):Ic w ao cap S:=by
 obtain⟨a,c,e,r⟩:=Ic.Kr h hm
 injection e with e1 e2 e3
 subst e1 e3
 exact r
theorem Cj.own{w:Wq}{lo n cap:Nat}{ao:Option Addr}{l:List Int}(h:w.ownsRow lo 3 1 (Y ao n cap) n (encI l))(hm:l.length*8<=140737488351232):Cj w ao cap l:=by
 obtain⟨a,c,e,r⟩:=Cj.Kr h hm
 injection e with e1 e2 e3
 subst e1 e3
 exact r
theorem Py{w:Wq}{lo size n m cap:Nat}{ao:Option Addr}{e:TypeId}{xs:List Value}(h:w.ownsRow lo e size (Y ao m cap) n xs):∀ ad,ao=some ad->lo<=ad.block:=by
 rintro ad rfl
 exact(h.lt ad.block rfl).1
theorem Rw.hi{w:Wq}{lo:Nat}{aS aH aF aL:Option Addr}{cS cH cF cL:Nat}{M:Mm}(r:Rw w lo aS aH aF aL cS cH cF cL M):Hi4 lo aS aH aF aL :=
 ⟨Py r.s,Py r.h,Py r.f,Py r.l⟩
theorem Rw.at{w:Wq}{lo:Nat}{aS aH aF aL:Option Addr}{cS cH cF cL:Nat}{M:Mm}(r:Rw w lo aS aH aF aL cS cH cF cL M)
  (m1:M.slots.length*48<=140737488351232) (m2:M.heads.length*8<=140737488351232) (m3:M.free.length*8<=140737488351232) (m4:M.locks.length*8<=140737488351232):At w aS aH aF aL cS cH cF cL M :=
 ⟨.own r.s m1,.own r.h m2,.own r.f m3,.own r.l m4⟩
structure Mine(Xb:Ex)(w:Wq)(B lo:Nat)(aS aH aF aL:Option Addr)(cS cH cF cL:Nat)(M:Mm):Prop where
 box:w.heap[B]?=some (.cells (List.toArray (Y aS M.slots.length cS :: Y aH M.heads.length cH :: Y aF M.free.length cF :: Y aL M.locks.length cL :: O J M.now :: Xb.rs)) Xb.rt (0,0))
 c:Rw w lo aS aH aF aL cS cH cF cL M
 m1:M.slots.length*48<=140737488351232
 m2:M.heads.length*8<=140737488351232
 m3:M.free.length*8<=140737488351000
 m4:M.locks.length*8<=140737488351232
theorem Mine.at{w:Wq}{B lo:Nat}{aS aH aF aL:Option Addr}{cS cH cF cL:Nat}{M:Mm}(m:Mine Xb w B lo aS aH aF aL cS cH cF cL M):At w aS aH aF aL cS cH cF cL M :=
 m.c.at m.m1 m.m2 (by have:=m.m3;omega) m.m4
theorem Mine.below{w w':Wq}{B lo:Nat}{aS aH aF aL:Option Addr}{cS cH cF cL:Nat}{M:Mm}(m:Mine Xb w B lo aS aH aF aL cS cH cF cL M)(hb:Below w.heap.size w w'):Mine Xb w' B lo aS aH aF aL cS cH cF cL M :=
 ⟨(hb.block _ (lt_of_block m.box)).trans m.box,m.c.below hb,m.m1,m.m2,m.m3,m.m4⟩
structure Kept(w w':Wq)(B lo:Nat):Prop where
 os:w'.os=w.os
 tape:w'.tape=w.tape
 output:w'.output=w.output
 size:w.heap.size<=w'.heap.size
 block:∀ k,k<lo->k≠B->w'.heap[k]?=w.heap[k]?
theorem Kept.refl(w:Wq)(B lo:Nat):Kept w w B lo:=⟨rfl,rfl,rfl,Nat.le_refl _,fun _ _ _=>rfl⟩
theorem Kept.trans{w w1 w2:Wq}{B lo:Nat}(h:Kept w w1 B lo)(h':Kept w1 w2 B lo):Kept w w2 B lo :=
 ⟨h'.os.trans h.os,h'.tape.trans h.tape,h'.output.trans h.output,Nat.le_trans h.size h'.size,fun k h1 h2=>(h'.block k h1 h2).trans (h.block k h1 h2)⟩
theorem Kept.of_below{w w':Wq}{B lo n:Nat}(hb:Below n w w')(h:lo<=n):Kept w w' B lo:=⟨hb.os,hb.tape,hb.output,hb.size,fun k h1 h2=>hb.block k (by omega)⟩
theorem Kept.grown{w w1 w2:Wq}{B lo:Nat}{row:Option Nat}(h:Kept w w1 B lo)(hg:w1.grownBy w2 row)(hr:∀ k,row=some k->lo<=k)(hz:lo<=w1.heap.size):Kept w w2 B lo :=
 h.trans ⟨hg.os,hg.tape,hg.output,hg.size,fun k h1 h2=>hg.block k (by omega) (fun e=>by have:=hr k e.symm;omega)⟩
theorem Kept.Yd{w w1:Wq}{B lo j:Nat}(h:Kept w w1 B lo)(v:Value):Kept w (w1.setCell ⟨B,j,none⟩ v) B lo :=
 h.trans ⟨rfl,rfl,rfl,by simp,fun k h1 h2=>Below.heap_setCell _ _ _ _ (by dsimp only;exact h2)⟩
theorem Kept.setCell{w w1:Wq}{B lo g j:Nat}(h:Kept w w1 B lo)(hg:lo<=g)(v:Value):Kept w (w1.setCell ⟨g,j,none⟩ v) B lo :=
 h.trans ⟨rfl,rfl,rfl,by simp,fun k h1 h2=>Below.heap_setCell _ _ _ _ (by dsimp only;omega)⟩
theorem Kept.below{w w1 w2:Wq}{B lo:Nat}(h:Kept w w1 B lo)(hb:Below w1.heap.size w1 w2)(hz:lo<=w1.heap.size):Kept w w2 B lo :=
 h.trans (.of_below hb hz)
theorem Kept.down{w w1:Wq}{B lo:Nat}(h:Kept w w1 B lo){n:Nat}(h1:n<=lo)(h2:n<=B):Below n w w1 :=
 ⟨h.os,h.tape,h.output,h.size,fun k hk=>h.block k (by omega) (by omega)⟩
theorem Mine.Rl{w:Wq}{B lo g:Nat}{aH aF aL:Option Addr}{cS cH cF cL:Nat}{M:Mm}(m:Mine Xb w B lo (some ⟨g,0,none⟩) aH aF aL cS cH cF cL M)(j:Nat)(u:Value)(S':List Sl)(hS:(encS M.slots).set j u=encS S') :
  Mine Xb (w.setCell ⟨g,j,none⟩ u) B lo (some ⟨g,0,none⟩) aH aF aL cS cH cF cL { M with slots:=S' }:=by
 have hl:S'.length=M.slots.length:=by
  have:=congrArg List.length hS
  rw[List.length_set,Hm,Hm] at this
  omega
 obtain⟨hB,⟨s,h,f,l,hf,hl',fl,lz⟩,m1,m2,m3,m4⟩:=m
 have hg:(Value.slice (some ⟨g,0,none⟩) M.slots.length cS).ownBlock=some g:=rfl
 have ne:∀ {v:Value} {n:Nat} {xs:List Value},w.ownsRow lo 3 1 v n xs->v.ownBlock≠some g:=fun h e=>Cf h s (by first|decide|exact Ex.ne _ _ (by decide)) g e hg
 refine⟨?_,⟨?_,ownsRow_setCell_other h (ne h) u,ownsRow_setCell_other f (ne f) u,ownsRow_setCell_other l (ne l) u,hf,hl',fl,by rw[World.size_setCell];exact lz⟩,by dsimp only;omega,m2,m3,m4⟩
 ·dsimp only
  rw[Below.heap_setCell _ _ _ _ (by dsimp only;intro e;exact own_ne s hB (by first|decide|exact Ex.ne _ _ (by decide)) (by rw[hg,e])),hl]
  exact hB
 ·dsimp only
  rw[hl,<- hS]
  exact(s.stored j u).1
theorem Mine.setH{w:Wq}{B lo g:Nat}{aS aF aL:Option Addr}{cS cH cF cL:Nat}{M:Mm}(m:Mine Xb w B lo aS (some ⟨g,0,none⟩) aF aL cS cH cF cL M)(j:Nat)(x:Int) :
  Mine Xb (w.setCell ⟨g,j,none⟩ (O J x)) B lo aS (some ⟨g,0,none⟩) aF aL cS cH cF cL { M with heads:=M.heads.set j x }:=by
 obtain⟨hB,⟨s,h,f,l,hf,hl,fl,lz⟩,m1,m2,m3,m4⟩:=m
 have hg:(Value.slice (some ⟨g,0,none⟩) M.heads.length cH).ownBlock=some g:=rfl
 have ns:(Value.slice aS M.slots.length cS).ownBlock≠some g:=fun e=>Cf s h (by first|decide|exact Ex.ne _ _ (by decide)) g e hg
 refine⟨?_,⟨ownsRow_setCell_other s ns _,?_,ownsRow_setCell_other f (fun e=>hf g hg e) _,ownsRow_setCell_other l (fun e=>hl g hg e) _,Ru hf,Ru hl,fl,by rw[World.size_setCell];exact lz⟩,m1,by dsimp only;rw[List.length_set];exact m2,m3,m4⟩
 ·dsimp only
  rw[Below.heap_setCell _ _ _ _ (by dsimp only;intro e;exact own_ne h hB (by first|decide|exact Ex.ne _ _ (by decide)) (by rw[hg,e])),List.length_set]
  exact hB
 ·dsimp only
  have e:encI (M.heads.set j x)=(encI M.heads).set j (O J x):=by simp[encI,List.map_set]
  rw[List.length_set,e]
  exact(h.stored j _).1
theorem Mine.La{w:Wq}{B lo g:Nat}{aS aH aF:Option Addr}{cS cH cF cL:Nat}{M:Mm}(m:Mine Xb w B lo aS aH aF (some ⟨g,0,none⟩) cS cH cF cL M)(j:Nat)(x:Int) :
  Mine Xb (w.setCell ⟨g,j,none⟩ (O J x)) B lo aS aH aF (some ⟨g,0,none⟩) cS cH cF cL { M with locks:=M.locks.set j x }:=by
 obtain⟨hB,⟨s,h,f,l,hf,hl,fl,lz⟩,m1,m2,m3,m4⟩:=m
 have hg:(Value.slice (some ⟨g,0,none⟩) M.locks.length cL).ownBlock=some g:=rfl
 have ns:(Value.slice aS M.slots.length cS).ownBlock≠some g:=fun e=>Cf s l (by first|decide|exact Ex.ne _ _ (by decide)) g e hg
 refine⟨?_,⟨ownsRow_setCell_other s ns _,ownsRow_setCell_other h (fun e=>hl g e hg) _,ownsRow_setCell_other f (fun e=>fl g e hg) _,?_,hf,Ru hl,Ru fl,by rw[World.size_setCell];exact lz⟩,m1,m2,m3,by dsimp only;rw[List.length_set];exact m4⟩
 ·dsimp only
  rw[Below.heap_setCell _ _ _ _ (by dsimp only;intro e;exact own_ne l hB (by first|decide|exact Ex.ne _ _ (by decide)) (by rw[hg,e])),List.length_set]
  exact hB
 ·dsimp only
  have e:encI (M.locks.set j x)=(encI M.locks).set j (O J x):=by simp[encI,List.map_set]
  rw[List.length_set,e]
  exact(l.stored j _).1
theorem Mine.pop{w:Wq}{B lo g n:Nat}{aS aH aL:Option Addr}{cS cH cF cL:Nat}{M:Mm}(m:Mine Xb w B lo aS aH (some ⟨g,0,none⟩) aL cS cH cF cL M)(hn:M.free.length=n+1) :
  Mine Xb (w.setCell ⟨B,2,none⟩ (Y (some ⟨g,0,none⟩) n cF)) B lo aS aH (some ⟨g,0,none⟩) aL cS cH cF cL { M with free:=M.free.take n }:=by
 obtain⟨hB,⟨s,h,f,l,hf,hl,fl,lz⟩,m1,m2,m3,m4⟩:=m
 have hlen:(M.free.take n).length=n:=by rw[List.length_take];omega
 refine⟨?_,⟨ownsRow_setCell_other s (own_ne s hB (by first|decide|exact Ex.ne _ _ (by decide))) _,ownsRow_setCell_other h (own_ne h hB (by first|decide|exact Ex.ne _ _ (by decide))) _,?_,ownsRow_setCell_other l (own_ne l hB (by first|decide|exact Ex.ne _ _ (by decide))) _,Ru hf,hl,Ru fl,by rw[World.size_setCell];exact lz⟩,m1,m2,by dsimp only;omega,m4⟩
 ·dsimp only
  rw[hlen]
  have:=block_setCell (i:=2) hB (Y (some ⟨g,0,none⟩) n cF)
  simpa using this
 ·dsimp only
  rw[hlen]
  have fn:=own_ne f hB (by first|decide|exact Ex.ne _ _ (by decide))
  refine ownsRow_setCell_other ?_ fn _
  rw[hn] at f
  refine ownsRow_pop (last:=encI (M.free.drop n)) (by simp[encI];omega) ?_
  rw[show encI (M.free.take n)++encI (M.free.drop n)=encI M.free by simp[encI]]
  exact f
end
end Go.Proofs.YthhgoenomehobaaGreat.mm
