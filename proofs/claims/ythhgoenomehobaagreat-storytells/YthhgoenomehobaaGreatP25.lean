/- Parts. -/
import Derived.Test.YthhgoenomehobaaGreatP20
import Derived.Test.YthhgoenomehobaaGreatP17
import Derived.Test.YthhgoenomehobaaGreatP16
namespace Go.Proofs.YthhgoenomehobaaGreat.mm
open Joins renaming block_setCell → dO
open World renaming size_setCell → eQ, setCells → jZ
open List renaming getElem_mem → bJ, length_set → dZ, getElem_set_self → mF, length_take → jO, mem_map → mG, nil_append → eP, set_set → mJ, getElem_of_mem → mM
open RowKit.Below renaming heap_alloc → fU, heap_setCell → dM
open Nat renaming le_refl → aC, zero_add → dR, not_lt_zero → mD
open Go renaming lt_of_block → fC, heap_alloc_new → fP, results_cell_row → lV, bodyPost_ret → gZ, Value → dU, Calls → aI, ownsRow_setCell_other → dV, below_drewN → lW, results → iH, Ending → lZ, undef → Uz, World → Wq
open Tryz
set_option maxRecDepth 100000
set_option linter.unusedVariables false
open Value renaming int → O, slice → Y
open IntKind renaming i64 → J
open Tryz renaming prog → Pg
open ChangeShapes WideShapes ChangeAt RowKit Joins
set_option maxHeartbeats 0
variable (n:Int){l:List (Tk × TkV)}{k i:Nat}
theorem Gl.src{w:Wq}{ao:Option Addr}{bg:Nat}{l:List (Tk × TkV)}(r:Gl w ao bg l):∀ ad,ao=some ad->∀ j u,(Fg l)[j]?=some u->w.cell? (ad.add j)=some u:=by
 rintro ad rfl j u hj
 have gm:j<l.length*16:=by
  have:=(List.getElem?_eq_some_iff.1 hj).1
  rwa [Kz] at this
 rcases r.at_ with h0|⟨b,o,e,hc⟩
 ·omega
 injection e with e
 subst e
 have hi:j / 16<l.length:=by omega
 have e1:j=j / 16*16+j % 16:=by omega
 rw[Addr.add_mid,show o+j=o+j / 16*16+j % 16 by omega,hc _ hi _ (by omega),<- Jc hi (by omega),<- e1]
 exact hj
theorem a9s(l:List (Tk × TkV)):∀ v∈Fg l,v.oneCell'=true:=by
 intro v hv
 obtain⟨p,-,h⟩:=List.mem_flatMap.1 hv
 simp only[Tk.enc,Fr.enc,List.cons_append,eP,List.mem_cons,List.not_mem_nil,or_false] at h
 rcases h with rfl|rfl|rfl|rfl|rfl|rfl|rfl|rfl|rfl|rfl|rfl|rfl|rfl|rfl|rfl|rfl <;> rfl
theorem iT:(Pg.info? 49).map (fun i=>(i.zero,i.size,i.bytes))=some (some (.agg #[.bool false,O J 0,O J 0,O J 0,O J 0,O J 0,O J 0,O J 0,O J 0,O J 0,O J 0,O J 0,Y none 0 0,.bool false,O J 0,Y none 0 0]),16,160):=by kernel_rfl
theorem a3o(ad:Addr)(bg:Nat)(l:List (Tk × TkV))(w:Wq)(r:Gl w (some ad) bg l) :
  aI Pg 102 #[Y (some ad) l.length bg] w fun e w'=>e=.returned (Y (some ⟨w.heap.size,0,none⟩) l.length l.length)/\w'.ownsRow w.heap.size 49 16 (Y (some ⟨w.heap.size,0,none⟩) l.length l.length) l.length (Fg l)/\Below w.heap.size w w':=by
 obtain⟨i0,hi,ng,qj,pq⟩:=info_parts iT
 have m1:=r.max
 have m2:=r.le
 have HS:Qi _:=r.src
 have HN:Qi _:=r.nil
 clear r
 have q27:∀ (w:Wq) (a:Option Addr) (n c:Nat),(binOp .eql 26 (Y a n c) (Y none 0 0)).run Pg w=.ok (.bool a.isNone) w:=fun w a n c=>Lib.run_eql_slice_nil w _ _ a n c 0 0 underlying26
 go_enter func102,ntmps102
 go_wp2_with (first
  | (at_make;refine wpList_make_own _ rfl _ _ 26 rfl w.heap.size 49 i0 (.agg #[.bool false,O J 0,O J 0,O J 0,O J 0,O J 0,O J 0,O J 0,O J 0,O J 0,O J 0,O J 0,Y none 0 0,.bool false,O J 0,Y none 0 0]) 16 underlying26 hi ng qj .i64 .i64 _ l.length rfl rfl rfl (by rw[pq];omega) (by unfold maxLen;omega) (aC _) ?_;intro w1 jv qL)
  | (at_builtin;refine wpList_append_fits_any _ rfl _ _ 26 rfl w.heap.size 49 i0 16 underlying26 hi qj w.heap.size 0 l.length _ rfl jv (some ad) l.length bg (Fg l) rfl (Kz l) (fun h=>by have:=HN.o h;omega) (fun ad h j u hj=>qL.cell (HS.o ad h j u hj) (by intro hh;cases hh)) (a9s l) (by omega) ?_;intro w2 lu qf))
 go_ret
 simp only[dR,eP] at lu
 refine⟨by simp,lu,?_⟩
 have:=((Below.refl w.heap.size w).grown qL (aC _) (fun k h=>by cases h))
 exact this.grown qf qL.size (fun k h=>by cases h;exact aC _)
structure Qh(w:Wq)(lo g cT:Nat)(l:List (Tk × TkV))(k:Nat):Prop where
 row:w.ownsRow lo 49 16 (Y (some ⟨g,0,none⟩) l.length cT) l.length (Fg l)
 u:∀ j (h:j<l.length),j<k->w.ownsRow lo 3 1 (Y l[j].2.aH l[j].1.u.length l[j].2.cH) l[j].1.u.length (encI l[j].1.u)
 t:∀ j (h:j<l.length),j<k->Ea w lo l[j].2.aK l[j].2.cK l[j].1.f.t
 dj:∀ i j (hi:i<l.length) (hj:j<l.length),i<k->j<k->i≠j->∀ a b,l[i].2.aH=some a->l[j].2.aH=some b->a.block≠b.block
theorem Qh.step{w w':Wq}{lo g cT k:Nat}{l:List (Tk × TkV)}(P:Qh w lo g cT l k)(hk:k<l.length)(uf rV:Option Addr)(tZ sF:Nat)(hlo:lo<=w.heap.size)
  (row:w'.ownsRow lo 49 16 (Y (some ⟨g,0,none⟩) l.length cT) l.length (Fg (l.set k (l[k].1,⟨uf,tZ,rV,sF⟩))))
  (hh:w'.ownsRow w.heap.size 3 1 (Y rV l[k].1.u.length sF) l[k].1.u.length (encI l[k].1.u)) (hK:Ea w' w.heap.size uf tZ l[k].1.f.t)
  (hs:∀ j,j<w.heap.size->j≠g->w'.heap[j]?=w.heap[j]?):Qh w' lo g cT (l.set k (l[k].1,⟨uf,tZ,rV,sF⟩)) (k+1):=by
 have jb:(l.set k (l[k].1,(⟨uf,tZ,rV,sF⟩:TkV))).length=l.length:=dZ
 have ZE:w.heap[g]? ≠ none/\∃ sU,w.heap[g]?=some (.cells sU 49 (0,0)):=by
  obtain⟨sU,hc⟩:=a3s P.row rfl
  exact⟨by rw[hc];simp,sU,hc⟩
 obtain⟨-,sU,o9⟩:=ZE
 refine⟨by rw[jb];exact row,fun j hj ZB=>?_,fun j hj ZB=>?_,fun i j hi hj hik ZB iw a b ha hb=>?_⟩
 ·rcases Il hk hj with ⟨rfl,e⟩|⟨iw,h,e⟩
  ·rw[e];exact ownsRow_le hh hlo
  ·rw[e]
   have h1:=P.u j h (by omega)
   exact Cb h1 fun m hm=>hs m (h1.lt m hm).2 (fun he=>own_ne h1 o9 (by decide) (by rw[hm,he]))
 ·rcases Il hk hj with ⟨rfl,e⟩|⟨iw,h,e⟩
  ·rw[e];exact hK.le hlo
  ·rw[e]
   have h1:=P.t j h (by omega)
   refine h1.same fun ad ha=>hs _ (h1.lt ad ha).2 (fun he=>own_ne h1.own o9 (by decide) ?_)
   rw[ha];exact congrArg some he
 ·have EL:∀ {j} (h:j<l.length),j<k->∀ x y,rV=some x->l[j].2.aH=some y->x.block≠y.block:=fun {j} h ZB x y hx hy=>by
   have h1:=P.u j h ZB
   rw[hy] at h1
   rw[hx] at hh
   have:=(h1.lt y.block rfl).2
   have:=(hh.lt x.block rfl).1
   omega
  rcases Il hk hi with ⟨rfl,e⟩|⟨n1,h1,e⟩
  ·rw[e] at ha
   rcases Il hk hj with ⟨rfl,e'⟩|⟨n2,h2,e'⟩
   ·exact absurd rfl iw
   ·rw[e'] at hb;exact EL h2 (by omega) a b ha hb
  ·rw[e] at ha
   rcases Il hk hj with ⟨rfl,e'⟩|⟨n2,h2,e'⟩
   ·rw[e'] at hb;exact(EL h1 (by omega) b a hb ha).symm
   ·rw[e'] at hb;exact P.dj i j h1 h2 (by omega) (by omega) iw a b ha hb
theorem Qh.own{w:Wq}{lo g cT k:Nat}{l:List (Tk × TkV)}(P:Qh w lo g cT l k)(hk:l.length<=k)(few:l.length<=5)(hm:∀ p∈l,p.1.u.length<=1000)(km:∀ p∈l,p.1.f.t.length*16<=140737488351232):Cf w lo g cT l:=by
 have hH:∀ p∈l,w.ownsRow lo 3 1 (Y p.2.aH p.1.u.length p.2.cH) p.1.u.length (encI p.1.u):=fun p hp=>by
  obtain⟨j,hj,rfl⟩:=mM hp
  exact P.u j hj (by omega)
 have hK:∀ p∈l,Ea w lo p.2.aK p.2.cK p.1.f.t:=fun p hp=>by
  obtain⟨j,hj,rfl⟩:=mM hp
  exact P.t j hj (by omega)
 refine⟨P.row,few,hm,hH,fun i j hi hj iw=>P.dj i j hi hj (by omega) (by omega) iw,fun p hp=>Az.own (hK p hp).own (km p hp),fun p hp a ha=>((hK p hp).lt a ha).1,fun p hp _ a ha e=>?_,fun p hp _ q hq a b ha hb e=>?_⟩
 ·have h1:=(hK p hp).own
  rw[ha] at h1
  exact D9 h1 P.row (by decide) a.block rfl (by rw[e];rfl)
 ·have h1:=(hK p hp).own
  have h2:=hH q hq
  rw[ha] at h1;rw[hb] at h2
  exact D9 h1 h2 (by decide) a.block rfl (by rw[e];rfl)
theorem b4q(hk:k<l.length)(v:TkV):(l.set k (l[k].1,v)).map (·.1)=l.map (·.1):=by
 apply List.ext_getElem?
 intro j
 by_cases e:j=k
 ·subst e;simp[hk]
 ·rw[List.map_set,List.getElem?_set_ne (fun h=>e h.symm)]
@[reducible] def Xw (aT:Option Addr) (n cT:Nat):Ex:=⟨[Y aT n cT],28,by decide⟩
def LoM(n:Nat)(aS aH aF aL:Option Addr):Prop:=∀ ad,aS=some ad\/aH=some ad\/aF=some ad\/aL=some ad->ad.block<n
theorem Rw.lom{w:Wq}{lo:Nat}{aS aH aF aL:Option Addr}{cS cH cF cL:Nat}{M:Mm}(r:Rw w lo aS aH aF aL cS cH cF cL M):LoM w.heap.size aS aH aF aL:=by
 rintro ad (rfl|rfl|rfl|rfl)
 ·exact(r.s.lt ad.block rfl).2
 ·exact(r.h.lt ad.block rfl).2
 ·exact(r.f.lt ad.block rfl).2
 ·exact(r.l.lt ad.block rfl).2
theorem Rw.a0c{w:Wq}{lo B:Nat}{aS aH aF aL:Option Addr}{cS cH cF cL:Nat}{M:Mm}{cs:Array dU}(r:Rw w lo aS aH aF aL cS cH cF cL M)(hB:w.heap[B]?=some (.cells cs 28 (0,0)))(j:Nat)(v:dU):Rw (w.setCell ⟨B,j,none⟩ v) lo aS aH aF aL cS cH cF cL M :=
 ⟨Ej r.s hB (by decide) _,Ej r.h hB (by decide) _,Ej r.f hB (by decide) _,Ej r.l hB (by decide) _,r.hf,r.hl,r.fl,by rw[eQ];exact r.lz⟩
theorem Rw.setRow{w:Wq}{lo g:Nat}{aS aH aF aL:Option Addr}{cS cH cF cL:Nat}{M:Mm}(r:Rw w lo aS aH aF aL cS cH cF cL M)(hg:∀ ad,aS=some ad\/aH=some ad\/aF=some ad\/aL=some ad->ad.block≠g)(j:Nat)(v:dU):Rw (w.setCell ⟨g,j,none⟩ v) lo aS aH aF aL cS cH cF cL M:=by
 have q:∀ {a:Option Addr} {n c:Nat},(∀ ad,a=some ad->ad.block≠g)->(Value.slice a n c).ownBlock≠some g:=fun {a n c} h e=>by
  cases a with
  | none=>cases e
  | some ad=>injection e with e;exact h ad rfl e
 exact⟨dV r.s (q fun ad h=>hg ad (.inl h)) _,dV r.h (q fun ad h=>hg ad (.inr (.inl h))) _,dV r.f (q fun ad h=>hg ad (.inr (.inr (.inl h)))) _,dV r.l (q fun ad h=>hg ad (.inr (.inr (.inr h)))) _,r.hf,r.hl,r.fl,by rw[eQ];exact r.lz⟩
theorem a8k(w:Wq)(B:Nat)(v0 v1 v2 v3 v4:dU):w.setCells B 0 [v0,v1,v2,v3,v4]=J3 w B v0 v1 v2 v3 v4:=by
 simp only[jZ,J3,dR,Nat.reduceAdd]
theorem ws_M{bn:Array Oper}{nz:List Oper}{op:Oper}{a:Act}{w:Wq}{Q:Exit->Act->Wq->Prop}{aS aH aF aL:Option Addr}{nS nH nF nL cS cH cF cL:Nat}{je:Int}{B:Nat}(rY:op.guard=none)(x y:Operand)(ho:op.op=.store 25 x y)(hx:a.eval x=.pointer (some ⟨B,0,none⟩))(hy:a.eval y=.agg #[Y aS nS cS,Y aH nH cH,Y aF nF cF,Y aL nL cL,O J je])(h:w.there B 0 5)
  (K:wpList Pg bn Q nz (a.put op.dst Uz) (J3 w B (Y aS nS cS) (Y aH nH cH) (Y aF nF cF) (Y aL nL cL) (O J je))):wpList Pg bn Q (op :: nz) a w :=
 ws_5 rY x y ho hx hy h (by kernel_rfl) (by rw[a8k];exact K)
theorem a4i{w:Wq}{g:Nat}{u0 u1 u2 u3 u4 u5:dU}{t:TypeId}(h:w.heap[g]?=some (.cells #[u0,u1,u2,u3,u4,u5] t (0,0)))(v0 v1 v2 v3 v4 v5:dU):(w.setCells g 0 [v0,v1,v2,v3,v4,v5]).heap[g]?=some (.cells #[v0,v1,v2,v3,v4,v5] t (0,0)):=by
 have:=dO (i:=5) (dO (i:=4) (dO (i:=3) (dO (i:=2) (dO (i:=1) (dO (i:=0) h v0) v1) v2) v3) v4) v5
 simp only[jZ,dR,Nat.reduceAdd]
 rw[this]
 simp
theorem Bd{w0 w:Wq}{n g o:Nat}{vs:List dU}(h:Below n w0 w)(hg:n<=g):Below n w0 (w.setCells g o vs) :=
 h.trans ⟨(Au vs o w).1,(Au vs o w).2.1,(Au vs o w).2.2,by rw[setCells_size];exact aC _,fun k hk=>Af (by omega) vs o w⟩
def b3c(w:Wq)(M:Mm)(ts:List Tk)(e:lZ)(w':Wq):Prop :=
 ∃ gS gH gF gL kS kH kF kL g c l' dw,e=.returned (.agg #[Y gS M.s.length kS,Y gH M.h.length kH,Y gF M.f.length kF,Y gL M.l.length kL,O J M.w,Y (some ⟨g,0,none⟩) (List.length l') c]) /\
  Rw w' w.heap.size gS gH gF gL kS kH kF kL M/\LoM dw gS gH gF gL/\Cf w' dw g c l'/\(∀ p∈l',∀ a,p.2.aK=some a->a.block<w'.heap.size/\a.block≠g/\∀ q∈l',∀ b,q.2.aH=some b->a.block≠b.block)/\l'.map (·.1)=ts/\w.heap.size<=dw/\Below w.heap.size w w'
theorem a5t(M:Mm)(l:List (Tk × TkV))(aS aH aF aL:Option Addr)(cS cH cF cL:Nat)(aT:Option Addr)(cT:Nat)(w:Wq)(A:At w aS aH aF aL cS cH cF cL M)(r:Gl w aT cT l)(n1:1<=l.length)(n5:l.length<=5)(hm:∀ p∈l,p.1.u.length<=1000) :
  aI Pg 57 #[.agg #[Y aS M.s.length cS,Y aH M.h.length cH,Y aF M.f.length cF,Y aL M.l.length cL,O J M.w,Y aT l.length cT]] w (b3c w M (l.map (·.1))):=by
 have m1:=A.s.max;have m2:=A.h.max;have m3:=r.max
 obtain⟨ox,jq⟩:∃ o:Obj,o=.cells #[Y aS M.s.length cS,Y aH M.h.length cH,Y aF M.f.length cF,Y aL M.l.length cL,O J M.w,Y aT l.length cT] 28:=⟨_,rfl⟩
 obtain⟨oy,uM⟩:∃ o:Obj,o=.cells #[Y none 0 0,Y none 0 0,Y none 0 0,Y none 0 0,O J 0,Y none 0 0] 28:=⟨_,rfl⟩
 have b0:Below w.heap.size w ((w.alloc ox).alloc oy):=below_alloc2 w ox oy
 have ni:Qi (((w.alloc ox).alloc oy).heap[w.heap.size]?=some ox):=by show _=_;rw[fU _ _ _ (by simp),fP]
 have tV:Qi (((w.alloc ox).alloc oy).heap[w.heap.size+1]?=some oy):=by
  have:=fP (w.alloc ox) oy
  rwa [show (w.alloc ox).heap.size=w.heap.size+1 by simp] at this
 have ul:Qi (At ((w.alloc ox).alloc oy) aS aH aF aL cS cH cF cL M):=A.below b0
 have HR:Qi (Gl w aT cT l):=r
 have z0:((w.alloc ox).alloc oy).heap.size=w.heap.size+2:=by simp
 have HHm:Qi (∀ p∈l,p.1.u.length<=1000):=hm
 have HKm:Qi (∀ p∈l,p.1.f.t.length*16<=140737488351232):=fun p hp=>(r.t p hp).max
 clear A r hm
 go_enter func57,ntmps57
 go_wp2_with fail
 rw[<- jq,<- uM]
 generalize (w.alloc ox).alloc oy=W0 at *
 refine(a9m M aS aH aF aL cS cH cF cL W0 ul.o).mono ?_
 rintro e w1 ⟨gS,gH,gF,gL,kS,kH,kF,kL,rfl,c1,bu⟩
 have ug:Qi (w1.heap[w.heap.size]?=some ox):=(bu.block _ (fC ni.o)).trans ni.o
 have yx:Qi (w1.heap[w.heap.size+1]?=some oy):=(bu.block _ (fC tV.o)).trans tV.o
 have b1:Below w.heap.size w w1:=b0.trans (bu.mono b0.size)
 have z1:=bu.size
 have tX:Qi (Rw w1 W0.heap.size gS gH gF gL kS kH kF kL M):=c1
 clear ni tV ul bu b0 c1
 subst jq uM
 have HTh:Qi (w1.there w.heap.size 0 5):=Be ug.o (by simp)
 have HBx:Qi ((J3 w1 w.heap.size (Y gS M.s.length kS) (Y gH M.h.length kH) (Y gF M.f.length kF) (Y gL M.l.length kL) (O J M.w)).heap[w.heap.size]?=some (.cells #[Y gS M.s.length kS,Y gH M.h.length kH,Y gF M.f.length kF,Y gL M.l.length kL,O J M.w,Y aT l.length cT] 28 (0,0))):=Xt ug.o _ _ _ _ _
 have HYx:Qi ((J3 w1 w.heap.size (Y gS M.s.length kS) (Y gH M.h.length kH) (Y gF M.f.length kF) (Y gL M.l.length kL) (O J M.w)).heap[w.heap.size+1]?=_):=(Rt (by omega)).trans yx.o
 have HCx:Qi (Rw (J3 w1 w.heap.size (Y gS M.s.length kS) (Y gH M.h.length kH) (Y gF M.f.length kF) (Y gL M.l.length kL) (O J M.w)) W0.heap.size gS gH gF gL kS kH kF kL M):=tX.o.J3 (Xb:=Xw aT l.length cT) ug.o _ _ _ _ _
 have bx:Below w.heap.size w (J3 w1 w.heap.size (Y gS M.s.length kS) (Y gH M.h.length kH) (Y gF M.f.length kF) (Y gL M.l.length kL) (O J M.w)):=b1.trans (O9 w1 w.heap.size w.heap.size _ _ _ _ _ (aC _))
 have zx:W0.heap.size<=(J3 w1 w.heap.size (Y gS M.s.length kS) (Y gH M.h.length kH) (Y gF M.f.length kF) (Y gL M.l.length kL) (O J M.w)).heap.size:=by rw[Zc];exact z1
 have BO:Qi (Gl (J3 w1 w.heap.size (Y gS M.s.length kS) (Y gH M.h.length kH) (Y gF M.f.length kF) (Y gL M.l.length kL) (O J M.w)) aT cT l):=HR.o.below bx
 obtain⟨q0,q1,q2,q3,q4,q5,qs⟩:=Bh HBx.o
 clear ug yx tX b1
 go_wp2_with (refine ws_M rfl _ _ rfl rfl rfl HTh.o ?_;generalize J3 w1 w.heap.size (Y gS M.s.length kS) (Y gH M.h.length kH) (Y gF M.f.length kF) (Y gL M.l.length kL) (O J M.w)=W1 at *)
 obtain⟨ad0,rfl⟩:∃ ad,aT=some ad:=by
  obtain⟨b,o,e⟩:=BO.o.addr (by omega)
  exact⟨_,e⟩
 refine(a3o ad0 cT l W1 BO.o).mono ?_
 rintro e w2 ⟨rfl,qp,dm⟩
 obtain⟨g,hg⟩:∃ g,g=W1.heap.size:=⟨_,rfl⟩
 rw[<- hg] at qp ⊢
 have gW:w.heap.size<g/\w.heap.size+1<g:=by omega
 have HG:Qi (g=W1.heap.size):=hg
 have SK:Qi (w2.heap[w.heap.size]?=_):=(dm.block _ (fC HBx.o)).trans HBx.o
 have HYy:Qi (w2.heap[w.heap.size+1]?=_):=(dm.block _ (fC HYx.o)).trans HYx.o
 have HCy:Qi (Rw w2 W0.heap.size gS gH gF gL kS kH kF kL M):=HCx.o.below dm
 have HLo:Qi (LoM g gS gH gF gL):=by show LoM _ _ _ _ _;rw[hg];exact HCx.o.lom
 have b2:Below w.heap.size w w2:=bx.trans (dm.mono bx.size)
 have z2:g<w2.heap.size:=(qp.lt g rfl).2
 have uA:Qi (w2.ownsRow g 49 16 (Y (some ⟨g,0,none⟩) l.length l.length) l.length (Fg l)):=qp
 clear hg HBx HYx HCx BO bx dm qp q0 q1 q2 q3 q4 q5 qs
 obtain⟨q0,q1,q2,q3,q4,q5,qs⟩:=Bh SK.o
 have f5:w2.frozen? ⟨w.heap.size,5,none⟩=false:=unfrozen_of_block SK.o _
 have tH:Qi ((w2.setCell ⟨w.heap.size,5,none⟩ (Y (some ⟨g,0,none⟩) l.length l.length)).heap[w.heap.size]?=some (.cells #[Y gS M.s.length kS,Y gH M.h.length kH,Y gF M.f.length kF,Y gL M.l.length kL,O J M.w,Y (some ⟨g,0,none⟩) l.length l.length] 28 (0,0))):=by
  have:=dO (i:=5) SK.o (Y (some ⟨g,0,none⟩) l.length l.length)
  show _=_
  simpa using this
 have MQ:Qi ((w2.setCell ⟨w.heap.size,5,none⟩ (Y (some ⟨g,0,none⟩) l.length l.length)).heap[w.heap.size+1]?=_):=(dM w2 ⟨w.heap.size,5,none⟩ _ (w.heap.size+1) (by show w.heap.size+1≠w.heap.size;omega)).trans HYy.o
 have wz:Qi (Rw (w2.setCell ⟨w.heap.size,5,none⟩ (Y (some ⟨g,0,none⟩) l.length l.length)) W0.heap.size gS gH gF gL kS kH kF kL M):=HCy.o.a0c SK.o _ _
 have KH:Qi (Qh (w2.setCell ⟨w.heap.size,5,none⟩ (Y (some ⟨g,0,none⟩) l.length l.length)) g g l.length l 0):=⟨Ej uA.o SK.o (by decide) _,(fun j h h0=>absurd h0 (mD _)),(fun j h h0=>absurd h0 (mD _)),fun i j hi hj h0=>absurd h0 (mD _)⟩
 have b3:Below w.heap.size w (w2.setCell ⟨w.heap.size,5,none⟩ (Y (some ⟨g,0,none⟩) l.length l.length)):=b2.setCell (aC _) _
 have z3:g<(w2.setCell ⟨w.heap.size,5,none⟩ (Y (some ⟨g,0,none⟩) l.length l.length)).heap.size:=by rw[eQ];exact z2
 clear HYy HCy uA b2 z2
 go_wp2_with fail
 generalize w2.setCell ⟨w.heap.size,5,none⟩ (Y (some ⟨g,0,none⟩) l.length l.length)=W3 at *
 have N2:Qi (∀ j (h:j<l.length),Dk w l[j].2.aH l[j].2.cH l[j].1.u/\Az w l[j].2.aK l[j].2.cK l[j].1.f.t):=fun j h=>⟨HR.o.u _ (bJ h),HR.o.t _ (bJ h)⟩
 clear HR SK q0 q1 q2 q3 q4 q5 qs f5
 go_loopw [16] (fun i wr=>∃ (k:Nat) (lk:List (Tk × TkV)),k<=l.length/\i=O J k/\Qi (lk.length=l.length/\lk.map (·.1)=l.map (·.1)/\∀ j,k<=j->lk[j]?=l[j]?)/\Qi (Qh wr g g l.length lk k)/\Qi (Rw wr W0.heap.size gS gH gF gL kS kH kF kL M) /\
   Qi (wr.heap[w.heap.size]?=some (.cells #[Y gS M.s.length kS,Y gH M.h.length kH,Y gF M.f.length kF,Y gL M.l.length kL,O J M.w,Y (some ⟨g,0,none⟩) l.length l.length] 28 (0,0))) /\
   Qi (wr.heap[w.heap.size+1]?=some (.cells #[Y none 0 0,Y none 0 0,Y none 0 0,Y none 0 0,O J 0,Y none 0 0] 28 (0,0)))/\Qi (Below w.heap.size w wr)/\Qi (g<wr.heap.size)) (fun i _=>l.length - (intOf i).toNat)
 case atStart=>exact⟨0,l,Nat.zero_le _,rfl,⟨rfl,rfl,fun _ _=>rfl⟩,KH,wz,tH,MQ,b3,z3⟩
 case round =>
  obtain⟨k,lk,hk,rfl,HL,HP,HC,HB,HY,Hb,Hz⟩:=hrel
  clear KH wz tH MQ b3 z3
  obtain⟨q0,q1,q2,q3,q4,q5,qs⟩:=Bh HB.o
  by_cases gm:k<l.length
  ·have yh:k<lk.length:=by rw[HL.o.1];exact gm
   have HE:Qi (lk[k]'yh=l[k]):=by
    have:=HL.o.2.2 k (aC _)
    rw[List.getElem?_eq_getElem yh,List.getElem?_eq_getElem gm] at this
    injection this
   have qp:=HP.o.row
   have cHd:wr.cell? ⟨g,k*16+15,none⟩=some (Y l[k].2.aH l[k].1.u.length l[k].2.cH):=by
    rw[qp.cellAt _ (by rw[HL.o.1];omega),Jc yh (by decide),HE.o];rfl
   obtain⟨JO,hKi⟩:=N2.o k gm
   have KP:Qi (Dk wr l[k].2.aH l[k].2.cH l[k].1.u):=JO.below Hb.o
   have HKi:Qi (Az w l[k].2.aK l[k].2.cK l[k].1.f.t):=hKi
   clear JO hKi qp
   go_wp2_with fail
   refine(Py l[k].2.aH l[k].2.cH l[k].1.u wr KP.o).mono ?_
   rintro e w4 ⟨a4,c4,rfl,EI,qK⟩
   have vK:Qi (w4.heap[w.heap.size]?=_):=(qK.block _ (fC HB.o)).trans HB.o
   have WR:Qi (w4.heap[w.heap.size+1]?=_):=(qK.block _ (fC HY.o)).trans HY.o
   have BR:Qi (Rw w4 W0.heap.size gS gH gF gL kS kH kF kL M):=HC.o.below qK
   have b4:Below w.heap.size w w4:=Hb.o.trans (qK.mono Hb.o.size)
   have IJ:=own_below HP.o.row qK
   have zz4:=qK.size
   have XB:Qi (∀ j,j<wr.heap.size->w4.heap[j]?=wr.heap[j]?):=fun j h=>qK.block j h
   have c15:w4.cell? ⟨g,k*16+15,none⟩=some (Y l[k].2.aH l[k].1.u.length l[k].2.cH):=by
    rw[IJ.cellAt _ (by rw[HL.o.1];omega),Jc yh (by decide),HE.o];rfl
   have BM:w4.frozen? ⟨g,k*16+15,none⟩=false:=IJ.frozenAt _
   have NE:(w4.setCell ⟨g,k*16+15,none⟩ (Y a4 l[k].1.u.length c4)).ownsRow g 49 16 (Y (some ⟨g,0,none⟩) lk.length l.length) lk.length (Fg (lk.set k (l[k].1,⟨l[k].2.aK,l[k].2.cK,a4,c4⟩))):=by
    rw[<- Su yh (o:=15) (Y a4 l[k].1.u.length c4) (l[k].1,⟨l[k].2.aK,l[k].2.cK,a4,c4⟩) (by decide) (by rw[HE.o];rfl)]
    exact(IJ.stored _ _).1
   have ZA:w.heap.size≠g/\w.heap.size+1≠g:=by omega
   have uq:∀ j,j≠g->(w4.setCell ⟨g,k*16+15,none⟩ (Y a4 l[k].1.u.length c4)).heap[j]?=w4.heap[j]?:=fun j h=>dM _ _ _ _ (by dsimp only;exact h)
   have yC:Qi ((w4.setCell ⟨g,k*16+15,none⟩ (Y a4 l[k].1.u.length c4)).heap[w.heap.size]?=_):=(uq _ ZA.1).trans vK.o
   have HY5:Qi ((w4.setCell ⟨g,k*16+15,none⟩ (Y a4 l[k].1.u.length c4)).heap[w.heap.size+1]?=_):=(uq _ ZA.2).trans WR.o
   have KT:Qi (Rw (w4.setCell ⟨g,k*16+15,none⟩ (Y a4 l[k].1.u.length c4)) W0.heap.size gS gH gF gL kS kH kF kL M):=BR.o.setRow (fun ad h e=>by have:=HLo.o ad h;omega) _ _
   have b5:Below w.heap.size w (w4.setCell ⟨g,k*16+15,none⟩ (Y a4 l[k].1.u.length c4)):=b4.setCell (by show w.heap.size<=g;omega) _
   have KJ:Qi ((w4.setCell ⟨g,k*16+15,none⟩ (Y a4 l[k].1.u.length c4)).ownsRow wr.heap.size 3 1 (Y a4 l[k].1.u.length c4) l[k].1.u.length (encI l[k].1.u)):=by
    refine dV EI (fun h=>?_) _
    have:=(EI.lt g h).1
    have:=Hz.o
    omega
   have HS5:Qi (∀ j,j<wr.heap.size->j≠g->(w4.setCell ⟨g,k*16+15,none⟩ (Y a4 l[k].1.u.length c4)).heap[j]?=wr.heap[j]?):=fun j h h'=>(uq j h').trans (XB.o j h)
   have z5:wr.heap.size<=(w4.setCell ⟨g,k*16+15,none⟩ (Y a4 l[k].1.u.length c4)).heap.size:=by rw[eQ];exact zz4
   have DK:Qi _:=NE
   have SA:Qi (Az (w4.setCell ⟨g,k*16+15,none⟩ (Y a4 l[k].1.u.length c4)) l[k].2.aK l[k].2.cK l[k].1.f.t):=HKi.o.below b5
   have EM:k<(lk.set k (l[k].1,(⟨l[k].2.aK,l[k].2.cK,a4,c4⟩:TkV))).length:=by rw[dZ];exact yh
   have c12:(w4.setCell ⟨g,k*16+15,none⟩ (Y a4 l[k].1.u.length c4)).cell? ⟨g,k*16+12,none⟩=some (Y l[k].2.aK l[k].1.f.t.length l[k].2.cK):=by
    have h:=NE.cellAt (k*16+12) (by rw[HL.o.1];omega)
    rw[h,Jc EM (by decide),mF];rfl
   have HRo:Qi (Qh wr g g l.length lk k):=HP
   clear vK WR BR b4 IJ zz4 XB NE uq EI qK HB HY HC Hb HKi KP q0 q1 q2 q3 q4 q5 qs cHd HP
   go_wp2_with fail
   generalize w4.setCell ⟨g,k*16+15,none⟩ (Y a4 l[k].1.u.length c4)=W5 at *
   refine(Uh l[k].2.aK l[k].2.cK l[k].1.f.t W5 SA.o).mono ?_
   rintro e w6 ⟨a6,c6,rfl,EH,uD⟩
   have SN:Qi (w6.heap[w.heap.size]?=_):=(uD.block _ (fC yC.o)).trans yC.o
   have HY6:Qi (w6.heap[w.heap.size+1]?=_):=(uD.block _ (fC HY5.o)).trans HY5.o
   have HC6:Qi (Rw w6 W0.heap.size gS gH gF gL kS kH kF kL M):=KT.o.below uD
   have b6:Below w.heap.size w w6:=b5.trans (uD.mono b5.size)
   have II:=own_below DK.o uD
   have zz6:=uD.size
   have MS:Qi (∀ j,j<wr.heap.size->j≠g->w6.heap[j]?=wr.heap[j]?):=fun j h h'=>(uD.block j (by omega)).trans (HS5.o j h h')
   have DL:Qi (w6.ownsRow wr.heap.size 3 1 (Y a4 l[k].1.u.length c4) l[k].1.u.length (encI l[k].1.u)):=own_below KJ.o uD
   have c12':w6.cell? ⟨g,k*16+12,none⟩=some (Y l[k].2.aK l[k].1.f.t.length l[k].2.cK):=by
    rw[II.cellAt (k*16+12) (by rw[HL.o.1];omega),Jc EM (by decide),mF];rfl
   have aj:w6.frozen? ⟨g,k*16+12,none⟩=false:=II.frozenAt _
   have XI:Qi ((w6.setCell ⟨g,k*16+12,none⟩ (Y a6 l[k].1.f.t.length c6)).ownsRow g 49 16 (Y (some ⟨g,0,none⟩) lk.length l.length) lk.length (Fg (lk.set k (lk[k].1,⟨a6,c6,a4,c4⟩)))):=by
    have h:=(II.stored (k*16+12) (Y a6 l[k].1.f.t.length c6)).1
    rw[Su EM (o:=12) (Y a6 l[k].1.f.t.length c6) (l[k].1,⟨a6,c6,a4,c4⟩) (by decide) (by rw[mF];rfl),mJ] at h
    rw[HE.o]
    exact h
   have uq:∀ j,j≠g->(w6.setCell ⟨g,k*16+12,none⟩ (Y a6 l[k].1.f.t.length c6)).heap[j]?=w6.heap[j]?:=fun j h=>dM _ _ _ _ (by dsimp only;exact h)
   have KZ:Qi ((w6.setCell ⟨g,k*16+12,none⟩ (Y a6 l[k].1.f.t.length c6)).heap[w.heap.size]?=_):=(uq _ ZA.1).trans SN.o
   have HY7:Qi ((w6.setCell ⟨g,k*16+12,none⟩ (Y a6 l[k].1.f.t.length c6)).heap[w.heap.size+1]?=_):=(uq _ ZA.2).trans HY6.o
   have HC7:Qi (Rw (w6.setCell ⟨g,k*16+12,none⟩ (Y a6 l[k].1.f.t.length c6)) W0.heap.size gS gH gF gL kS kH kF kL M):=HC6.o.setRow (fun ad h e=>by have:=HLo.o ad h;omega) _ _
   have Hb7:Qi (Below w.heap.size w (w6.setCell ⟨g,k*16+12,none⟩ (Y a6 l[k].1.f.t.length c6))):=b6.setCell (by show w.heap.size<=g;omega) _
   have Hz7:Qi (g<(w6.setCell ⟨g,k*16+12,none⟩ (Y a6 l[k].1.f.t.length c6)).heap.size):=by
    show _<_
    rw[eQ];have:=Hz.o;omega
   have HP7:Qi (Qh (w6.setCell ⟨g,k*16+12,none⟩ (Y a6 l[k].1.f.t.length c6)) g g l.length (lk.set k (lk[k].1,⟨a6,c6,a4,c4⟩)) (k+1)):=by
    refine HRo.o.step yh a6 a4 c6 c4 (Nat.le_of_lt Hz.o) XI.o ?_ ?_ (fun j h h'=>(uq j h').trans (MS.o j h h'))
    ·rw[HE.o]
     refine dV DL.o (fun h=>?_) _
     have:=(DL.o.lt g h).1
     have:=Hz.o
     omega
    ·rw[HE.o]
     refine(EH.same fun ad e=>uq _ ?_).le z5
     have:=(EH.lt ad e).1
     have:=Hz.o
     omega
   have HL7:Qi ((lk.set k (lk[k].1,(⟨a6,c6,a4,c4⟩:TkV))).length=l.length/\(lk.set k (lk[k].1,(⟨a6,c6,a4,c4⟩:TkV))).map (·.1)=l.map (·.1)/\∀ j,k+1<=j->(lk.set k (lk[k].1,(⟨a6,c6,a4,c4⟩:TkV)))[j]?=l[j]?) :=
    ⟨by rw[dZ];exact HL.o.1,(b4q yh _).trans HL.o.2.1,fun j h=>by rw[List.getElem?_set_ne (by omega)];exact HL.o.2.2 j (by omega)⟩
   clear yC HY5 KT b5 KJ HS5 z5 DK SA SN HY6 HC6 b6 II zz6 MS DL XI uq EH uD c12 HRo
   go_wp2
   go_roundw
   case rel=>exact⟨k+1,_,by omega,by go_num,HL7,HP7,HC7,KZ,HY7,Hb7,Hz7⟩
   case measure=>simp[intOf];omega
  ·have HTO:Qi (Cf wr g g l.length lk):=HP.o.own (by rw[HL.o.1];omega) (by rw[HL.o.1];exact n5) (fun p hp=>by
    have:p.1∈l.map (·.1):=by rw[<- HL.o.2.1];exact mG.2 ⟨p,hp,rfl⟩
    obtain⟨q,hq,e⟩:=mG.1 this
    rw[<- e];exact HHm.o q hq) (fun p hp=>by
    have:p.1∈l.map (·.1):=by rw[<- HL.o.2.1];exact mG.2 ⟨p,hp,rfl⟩
    obtain⟨q,hq,e⟩:=mG.1 this
    rw[<- e];exact HKm.o q hq)
   have l6:Qi (wr.rangeAt w.heap.size 0 [Y gS M.s.length kS,Y gH M.h.length kH,Y gF M.f.length kF,Y gL M.l.length kL,O J M.w,Y (some ⟨g,0,none⟩) l.length l.length]):=Aq HB.o rfl
   have t6:Qi (wr.there (w.heap.size+1) 0 6):=Be HY.o (by simp)
   have HY8:Qi ((wr.setCells (w.heap.size+1) 0 [Y gS M.s.length kS,Y gH M.h.length kH,Y gF M.f.length kF,Y gL M.l.length kL,O J M.w,Y (some ⟨g,0,none⟩) l.length l.length]).heap[w.heap.size+1]?=_):=a4i HY.o _ _ _ _ _ _
   have QI:∀ j,j≠w.heap.size+1->(wr.setCells (w.heap.size+1) 0 [Y gS M.s.length kS,Y gH M.h.length kH,Y gF M.f.length kF,Y gL M.l.length kL,O J M.w,Y (some ⟨g,0,none⟩) l.length l.length]).heap[j]?=wr.heap[j]?:=fun j h=>Af h _ _ _
   have PR:Qi _:=QI
   have b8:Below w.heap.size w (wr.setCells (w.heap.size+1) 0 [Y gS M.s.length kS,Y gH M.h.length kH,Y gF M.f.length kF,Y gL M.l.length kL,O J M.w,Y (some ⟨g,0,none⟩) l.length l.length]):=Bd Hb.o (Nat.le_succ _)
   have z8:(wr.setCells (w.heap.size+1) 0 [Y gS M.s.length kS,Y gH M.h.length kH,Y gF M.f.length kF,Y gL M.l.length kL,O J M.w,Y (some ⟨g,0,none⟩) l.length l.length]).heap.size=wr.heap.size:=setCells_size _ _ _
   clear QI HB HY q0 q1 q2 q3 q4 q5 qs
   go_wp2_with (first|refine F8 rfl _ rfl rfl l6.o ?_|refine Iu rfl _ _ rfl rfl rfl t6.o (by kernel_rfl) ?_)
   generalize wr.setCells _ 0 _=W8 at *
   refine gZ (lV results57 _ W8 (w.heap.size+1) 28 _ (0,0) _ rfl HY8.o underlying28 rfl (by kernel_rfl)) rfl ?_
   refine⟨gS,gH,gF,gL,kS,kH,kF,kL,g,l.length,lk,g,by rw[HL.o.1],?_,HLo.o,?_,?_,HL.o.2.1,by omega,b8⟩
   ·have h:=HC.o
    have q:∀ {lo e size n:Nat} {v:dU} {xs:List dU},wr.ownsRow lo e size v n xs->W0.heap.size<=lo->W8.ownsRow w.heap.size e size v n xs:=fun {lo e size n v xs} h hl=>ownsRow_le (Cb h fun k hk=>PR.o k (by have:=(h.lt k hk).1;omega)) (by omega)
    exact⟨q h.s (aC _),q h.h (aC _),q h.f (aC _),q h.l (aC _),h.hf,h.hl,h.fl,b8.size⟩
   ·refine HTO.o.same fun k _ hk=>PR.o k ?_
    rcases hk with rfl|⟨p,hp,a,ha,rfl⟩|⟨p,hp,a,ha,rfl⟩
    ·omega
    ·have:=(HTO.o.hlo hp ha).1;omega
    ·have:=HTO.o.klo p hp a ha;omega
   ·intro p hp a ha
    obtain⟨j,hj,rfl⟩:=mM hp
    have NZ:=HP.o.t j hj (by have:=HL.o.1;omega)
    have hz:=(NZ.lt a ha).2
    have h1:=NZ.own
    rw[ha] at h1
    refine⟨by omega,fun e=>D9 h1 HP.o.row (by decide) a.block rfl (by rw[e];rfl),fun q hq b hb e=>?_⟩
    have h2:=HTO.o.u q hq
    rw[hb] at h2
    exact D9 h1 h2 (by decide) a.block rfl (by rw[e];rfl)
section
open Deep
structure WM(w:Wq)(n0 B lo dw:Nat)(aS aH aF aL:Option Addr)(cS cH cF cL:Nat)(M:Mm)(g cT n:Nat)(l:List (Tk × TkV)):Prop where
 m:Mine (Xw (some ⟨g,0,none⟩) n cT) w B lo aS aH aF aL cS cH cF cL M
 t:Cf w dw g cT l
 len:l.length=n
 ap:∀ k,Ac B aS aH aF aL k->¬ TB g l k
 ka:∀ p∈l,∀ a,p.2.aK=some a->a.block<w.heap.size/\a.block≠g/\∀ q∈l,∀ b,q.2.aH=some b->a.block≠b.block
 hlo:n0<=lo
 hlo2:n0<=dw
def WP(n0 B:Nat)(W':Wd)(w w':Wq):Prop :=
 ∃ aS aH aF aL cS cH cF cL aT cT l,w'.heap[B]?=some (.cells #[Y aS (W'.m).s.length cS,Y aH (W'.m).h.length cH,Y aF (W'.m).f.length cF,Y aL (W'.m).l.length cL,O J (W'.m).w,Y aT (List.length l) cT] 28 (0,0))/\At w' aS aH aF aL cS cH cF cL W'.m/\Hi4 n0 aS aH aF aL/\Gl w' aT cT l/\THi n0 aT l/\l.map (·.1)=W'.t/\Kept w w' B n0
theorem Mine.b2c{Xb:Ex}{w:Wq}{B lo:Nat}{aS aH aF aL:Option Addr}{cS cH cF cL:Nat}{M:Mm}(m:Mine Xb w B lo aS aH aF aL cS cH cF cL M)(t:Int):Mine Xb (w.setCell ⟨B,4,none⟩ (O J t)) B lo aS aH aF aL cS cH cF cL { M with w:=t }:=by
 obtain⟨hB,⟨s,h,f,l,hf,hl,fl,lz⟩,m1,m2,m3,m4⟩:=m
 refine⟨?_,⟨dV s (own_ne s hB (Ex.ne _ _ (by decide))) _,dV h (own_ne h hB (Ex.ne _ _ (by decide))) _,dV f (own_ne f hB (Ex.ne _ _ (by decide))) _,dV l (own_ne l hB (Ex.ne _ _ (by decide))) _,hf,hl,fl,by rw[eQ];exact lz⟩,m1,m2,m3,m4⟩
 have:=dO (i:=4) hB (O J t)
 simpa using this
theorem a8p{Xb:Ex}{w:Wq}{B lo:Nat}{aS aH aF aL:Option Addr}{cS cH cF cL:Nat}{M:Mm}(m:Mine Xb w B lo aS aH aF aL cS cH cF cL M)(h:M.w=1000000) :
  aI Pg 105 #[Ae B] w fun e w'=>e=.returned (O J 7)/\w'=w:=by
 unfold Ae
 obtain⟨q0,q1,q2,q3,q4,f0,f1,f2,f3,f4,qs⟩:=Aj m.box
 rw[h] at q4
 clear m h
 go_enter func105,ntmps105
 go_wp2
 go_ret
 exact⟨rfl,rfl⟩
theorem b4v{Xb:Ex}{w:Wq}{B lo:Nat}{aS aH aF aL:Option Addr}{cS cH cF cL:Nat}{M:Mm}(m:Mine Xb w B lo aS aH aF aL cS cH cF cL M)(h:M.w≠1000000)(h0:0<=M.w/\M.w<=1000000) :
  aI Pg 105 #[Ae B] w fun e w'=>e=.returned (O J 0)/\w'=w.setCell ⟨B,4,none⟩ (O J (M.w+1)):=by
 unfold Ae
 obtain⟨q0,q1,q2,q3,q4,f0,f1,f2,f3,f4,qs⟩:=Aj m.box
 clear m
 have h':(M.w==1000000)=false:=by simpa using h
 have hw:IntKind.i64.wrap (M.w+1)=M.w+1:=by rw[IntKind.wrap_i64];omega
 clear h
 generalize M.w=t at *
 go_enter func105,ntmps105
 go_wp2
 go_ret
 exact⟨rfl,rfl⟩
def a0l(M:Mm)(t:Tk)(c:Cl):Int :=
 if t.b then 8 else if Dh M.s.length M.h.length c≠0 then Dh M.s.length M.h.length c
 else if c.k=1/\100<=t.u.length then 7 else if c.k=6/\hasB t.u c.h=false then 6 else 0
def BegP(w:Wq)(dw g cT:Nat)(l:List (Tk × TkV))(i:Nat)(c:Cl)(E:Int)(e:lZ)(w':Wq):Prop :=
 e=.returned (O J E)/\((E≠0/\Below w.heap.size w w')\/(E=0/\(∃ h:i<l.length,Cf w' dw g cT (l.set i (⟨true,Df c,l[i].1.u⟩,⟨none,0,l[i].2.aH,l[i].2.cH⟩)))/\Fine w w' (fun k=>k=g)))
theorem b0b{w:Wq}{a:Option Addr}{c:Nat}{l:List Int}(r:Dk w a c l)(n:Nat):Dk (w.drewN n) a c l:=Uf r fun _ _=>rfl
theorem a6h(M:Mm)(c:Cl)(aS aH aF aL:Option Addr)(cS cH cF cL:Nat)(g cT dw i:Nat)(l:List (Tk × TkV))(w:Wq)(T:Cf w dw g cT l)(hi:i<l.length)(m1:M.s.length<=9223372036854775807)(m2:M.h.length<=9223372036854775807) :
  aI Pg 107 #[Cm aS aH aF aL cS cH cF cL M,.pointer (some ⟨g,i*16,none⟩),Gj c] w (BegP w dw g cT l i c (a0l M l[i].1 c)):=by
 unfold Gj Cm
 obtain⟨C0,wY⟩:∃ x,x=Dh M.s.length M.h.length c:=⟨_,rfl⟩
 have ny:Qi (C0=Dh M.s.length M.h.length c):=wY
 obtain⟨E0,lh⟩:∃ x,x=a0l M l[i].1 c:=⟨_,rfl⟩
 rw[<- lh]
 have lq:Qi (E0=if l[i].1.b then 8 else if C0≠0 then C0 else if c.k=1/\100<=l[i].1.u.length then 7 else if c.k=6/\hasB l[i].1.u c.h=false then 6 else 0):=by rw[wY];exact lh
 clear lh wY
 have vT:=T.glo.2
 obtain⟨ox,jq⟩:∃ o:Obj,o=.cells #[Y aS M.s.length cS,Y aH M.h.length cH,Y aF M.f.length cF,Y aL M.l.length cL,O J M.w] 25:=⟨_,rfl⟩
 obtain⟨oy,uM⟩:∃ o:Obj,o=.cells #[O J c.k,O J c.a,O J c.b,O J c.t,O J c.q,O J c.h] 32:=⟨_,rfl⟩
 have b0:Below w.heap.size w ((w.alloc ox).alloc oy):=below_alloc2 w ox oy
 have ni:Qi (((w.alloc ox).alloc oy).heap[w.heap.size]?=some ox):=by show _=_;rw[fU _ _ _ (by simp),fP]
 have tV:Qi (((w.alloc ox).alloc oy).heap[w.heap.size+1]?=some oy):=by
  have:=fP (w.alloc ox) oy
  rwa [show (w.alloc ox).heap.size=w.heap.size+1 by simp] at this
 have HT:Qi (Cf w dw g cT l):=T
 have wu:Qi (Cf ((w.alloc ox).alloc oy) dw g cT l):=T.below b0
 have HI:Qi (Dk w l[i].2.aH l[i].2.cH l[i].1.u):=T.a8q.u _ (bJ hi)
 have hhm:=T.hm _ (bJ hi)
 have KF:Qi (∀ (E:Int) (W:Wq),E0=E->E≠0->Below w.heap.size w W->BegP w dw g cT l i c E0 (.returned (O J E)) W):=fun E W h1 h2 h3=>⟨by rw[h1],.inl ⟨by rw[h1];exact h2,h3⟩⟩
 obtain⟨tb,yc⟩:∃ tb,tb=l[i].1.b:=⟨_,rfl⟩
 obtain⟨hd,xA⟩:∃ hd,hd=l[i].1.u:=⟨_,rfl⟩
 obtain⟨aD,GK⟩:∃ a,a=l[i].2.aH:=⟨_,rfl⟩
 obtain⟨cD,ET⟩:∃ a,a=l[i].2.cH:=⟨_,rfl⟩
 rw[<- yc,<- xA] at lq
 rw[<- xA,<- GK,<- ET] at HI
 rw[<- xA] at hhm
 have MR:Qi (∀ W:Wq,Cf W dw g cT l->W.cell? ⟨g,i*16,none⟩=some (.bool tb)/\W.frozen? ⟨g,i*16,none⟩=false/\W.cell? ⟨g,i*16+15,none⟩=some (Y aD hd.length cD)):=fun W TW=>⟨by rw[yc];exact(TW.b hi).1,(TW.b hi).2,by rw[xA,GK,ET];exact(TW.a1i hi).1⟩
 obtain⟨e0,-,e2⟩:=MR.o _ T
 clear T HT yc xA GK ET
 go_enter func107,ntmps107
 cases tb
 rotate_left
 ·have HV:Qi (E0=8):=lq.o
  go_wp2
  go_ret
  exact KF.o 8 _ HV.o (by decide) (by rw[<- jq,<- uM];exact b0)
 go_wp2_with fail
 rw[<- jq,<- uM]
 generalize (w.alloc ox).alloc oy=W0 at *
 subst jq uM
 refine(a0o ny.o aS aH aF aL M.f.length M.l.length cS cH cF cL M.w W0 m1 m2).mono ?_
 rintro e w1 ⟨rfl,bu⟩
 have yx:Qi (w1.heap[w.heap.size+1]?=_):=(bu.block _ (fC tV.o)).trans tV.o
 have vP:Qi (Cf w1 dw g cT l):=wu.o.below bu
 have HI1:Qi (Dk w1 aD cD hd):=HI.o.below (b0.trans (bu.mono b0.size))
 have b1:Below w.heap.size w w1:=b0.trans (bu.mono b0.size)
 clear ni tV wu HI bu b0 e0 e2
 by_cases hC:C0=0
 rotate_left
 ·have h':(C0 != 0)=true:=by simpa using hC
  have HV:Qi (E0=C0):=by have:=lq.o;rw[ae (by simp),af hC] at this;exact this
  clear lq
  go_wp2
  go_ret
  exact KF.o C0 _ HV.o hC b1
 have rW:Qi (E0=if c.k=1/\100<=hd.length then 7 else if c.k=6/\hasB hd c.h=false then 6 else 0):=by have:=lq.o;rw[ae (by simp),ae (by simpa using hC)] at this;exact this
 clear lq ny
 subst hC
 obtain⟨d0,d1,d2⟩:=MR.o _ vP.o
 have y0:w1.cell? ⟨w.heap.size+1,0,none⟩=some (O J c.k):=by rw[cell_of_block yx.o];rfl
 have y5:w1.cell? ⟨w.heap.size+1,5,none⟩=some (O J c.h):=by rw[cell_of_block yx.o];rfl
 have lC:Qi (w1.rangeAt (w.heap.size+1) 0 [O J c.k,O J c.a,O J c.b,O J c.t,O J c.q,O J c.h]):=Aq yx.o rfl
 have tF:Qi (w1.there g (i*16+1) 14):=vP.o.there hi (by decide)
 by_cases ry:c.k=1
 ·by_cases hh:100<=hd.length
  ·have HV:Qi (E0=7):=by have:=rW.o;rw[af ⟨ry,hh⟩] at this;exact this
   have QM:(100:Int)<=(hd.length:Int):=by omega
   rw[ry] at y0
   clear rW lC
   go_wp2
   go_ret
   exact KF.o 7 _ HV.o (by decide) b1
  ·have HV:Qi (E0=0):=by have:=rW.o;rw[ae (fun h=>hh h.2),ae (fun h=>by have:=h.1;omega)] at this;exact this
   have QM:decide ((100:Int)<=(hd.length:Int))=false:=by simpa using (by omega:¬ (100:Int)<=(hd.length:Int))
   rw[ry] at y0
   clear rW hh tF ry
   go_wp2_with fail
   go_quiet (fail)
   have qY:Qi (Cf (w1.drewN nq) dw g cT l):=vP.o.same fun _ _ _=>rfl
   have LK:Qi ((w1.drewN nq).rangeAt (w.heap.size+1) 0 [O J c.k,O J c.a,O J c.b,O J c.t,O J c.q,O J c.h]):=lC.o
   have b2:Below w.heap.size w (w1.drewN nq):=lW b1 nq
   clear vP HI1 lC b1 yx y0 y5 d0 d1 d2
   generalize w1.drewN nq=W2 at *
   go_wp2_with (refine b6x rfl _ rfl rfl LK.o ?_)
   refine(Uj c W2).mono ?_
   rintro e w3 ⟨rfl,gu⟩
   have uj:Qi (Cf w3 dw g cT l):=qY.o.below gu
   have zF:Qi (Fine w w3 (fun k=>k=g)):=.of_below _ (b2.trans (gu.mono b2.size))
   obtain⟨d0,d1,d2⟩:=MR.o _ uj.o
   have tF:Qi ((w3.setCell ⟨g,i*16,none⟩ (.bool true)).there g (i*16+1) 14):=(uj.o.setB hi true).there (by rw[dZ];exact hi) (by decide)
   clear gu qY LK b2
   go_wp2_with (refine Bl (f:=Df c) rfl _ _ rfl rfl rfl tF.o ?_)
   go_ret
   refine⟨by rw[HV.o];rfl,.inr ⟨HV.o,⟨hi,?_⟩,?_⟩⟩
   ·have h1:=uj.o.setB hi true
    have uN:i<(l.set i (⟨true,l[i].1.f,l[i].1.u⟩,l[i].2)).length:=by rw[dZ];exact hi
    have h2:=h1.a4j uN (Df c) none 0 (Nh _) (fun _ h=>by cases h) (fun h=>absurd rfl h) (fun h=>absurd rfl h)
    rw[mJ] at h2
    simpa using h2
   ·have h:=zF.o.set (k:=g) (.inl rfl) (i*16) (.bool true)
    exact⟨(Au _ _ _).1.trans h.os,(Au _ _ _).2.1.trans h.tape,(Au _ _ _).2.2.trans h.output,by rw[setCells_size];exact h.size,fun k h1 h2=>(Af h2 _ _ _).trans (h.block k h1 h2)⟩
 by_cases EP:c.k=6
 ·have xx:(c.k==1)=false:=by simpa using ry
  have hq6:(c.k==6)=true:=by simpa using EP
  have GY:Qi (E0=if hasB hd c.h=false then 6 else 0):=by
   have:=rW.o
   rw[ae (fun h=>ry h.1)] at this
   show _=_
   rw[this]
   by_cases hb:hasB hd c.h=false
   ·rw[af ⟨EP,hb⟩,af hb]
   ·rw[ae (fun h=>hb h.2),ae hb]
  have wP:Qi (∀ n,aI Pg 33 #[Y aD hd.length cD,O J c.h] (w1.drewN n) fun e w'=>e=.returned (.bool (hasB hd c.h))/\w'=w1.drewN n):=fun n=>by
   have r:=b0b HI1.o n
   have h:=Ic aD hd.length cD hd c.h (w1.drewN n) (aC _) (by have:=r.max;omega) r.at_
   refine h.mono ?_
   rintro e w' ⟨rfl,rfl⟩
   exact⟨by rw[List.take_length],rfl⟩
  clear rW tF ry EP
  generalize hasB hd c.h=hb at *
  go_wp2_with fail
  go_quiet (first|(go_at_call 33;exact Calls.quiet_of_same (wP.o _)))
  cases hb
  ·have HV:Qi (E0=6):=GY.o
   go_wp2
   go_ret
   exact KF.o 6 _ HV.o (by decide) (lW b1 nq)
  ·have HV:Qi (E0=0):=GY.o
   have qY:Qi (Cf (w1.drewN nq) dw g cT l):=vP.o.same fun _ _ _=>rfl
   have LK:Qi ((w1.drewN nq).rangeAt (w.heap.size+1) 0 [O J c.k,O J c.a,O J c.b,O J c.t,O J c.q,O J c.h]):=lC.o
   have b2:Below w.heap.size w (w1.drewN nq):=lW b1 nq
   clear vP HI1 lC b1 yx y0 y5 d0 d1 d2
   generalize w1.drewN nq=W2 at *
   go_wp2_with (refine b6x rfl _ rfl rfl LK.o ?_)
   refine(Uj c W2).mono ?_
   rintro e w3 ⟨rfl,gu⟩
   have uj:Qi (Cf w3 dw g cT l):=qY.o.below gu
   have zF:Qi (Fine w w3 (fun k=>k=g)):=.of_below _ (b2.trans (gu.mono b2.size))
   obtain⟨d0,d1,d2⟩:=MR.o _ uj.o
   have tF:Qi ((w3.setCell ⟨g,i*16,none⟩ (.bool true)).there g (i*16+1) 14):=(uj.o.setB hi true).there (by rw[dZ];exact hi) (by decide)
   clear gu qY LK b2
   go_wp2_with (refine Bl (f:=Df c) rfl _ _ rfl rfl rfl tF.o ?_)
   go_ret
   refine⟨by rw[HV.o];rfl,.inr ⟨HV.o,⟨hi,?_⟩,?_⟩⟩
   ·have h1:=uj.o.setB hi true
    have uN:i<(l.set i (⟨true,l[i].1.f,l[i].1.u⟩,l[i].2)).length:=by rw[dZ];exact hi
    have h2:=h1.a4j uN (Df c) none 0 (Nh _) (fun _ h=>by cases h) (fun h=>absurd rfl h) (fun h=>absurd rfl h)
    rw[mJ] at h2
    simpa using h2
   ·have h:=zF.o.set (k:=g) (.inl rfl) (i*16) (.bool true)
    exact⟨(Au _ _ _).1.trans h.os,(Au _ _ _).2.1.trans h.tape,(Au _ _ _).2.2.trans h.output,by rw[setCells_size];exact h.size,fun k h1 h2=>(Af h2 _ _ _).trans (h.block k h1 h2)⟩
 ·have xx:(c.k==1)=false:=by simpa using ry
  have hq6:(c.k==6)=false:=by simpa using EP
  have HV:Qi (E0=0):=by have:=rW.o;rw[ae (fun h=>ry h.1),ae (fun h=>EP h.1)] at this;exact this
  clear rW tF ry EP
  go_wp2_with fail
  go_quiet (fail)
  have qY:Qi (Cf (w1.drewN nq) dw g cT l):=vP.o.same fun _ _ _=>rfl
  have LK:Qi ((w1.drewN nq).rangeAt (w.heap.size+1) 0 [O J c.k,O J c.a,O J c.b,O J c.t,O J c.q,O J c.h]):=lC.o
  have b2:Below w.heap.size w (w1.drewN nq):=lW b1 nq
  clear vP HI1 lC b1 yx y0 y5 d0 d1 d2
  generalize w1.drewN nq=W2 at *
  go_wp2_with (refine b6x rfl _ rfl rfl LK.o ?_)
  refine(Uj c W2).mono ?_
  rintro e w3 ⟨rfl,gu⟩
  have uj:Qi (Cf w3 dw g cT l):=qY.o.below gu
  have zF:Qi (Fine w w3 (fun k=>k=g)):=.of_below _ (b2.trans (gu.mono b2.size))
  obtain⟨d0,d1,d2⟩:=MR.o _ uj.o
  have tF:Qi ((w3.setCell ⟨g,i*16,none⟩ (.bool true)).there g (i*16+1) 14):=(uj.o.setB hi true).there (by rw[dZ];exact hi) (by decide)
  clear gu qY LK b2
  go_wp2_with (refine Bl (f:=Df c) rfl _ _ rfl rfl rfl tF.o ?_)
  go_ret
  refine⟨by rw[HV.o];rfl,.inr ⟨HV.o,⟨hi,?_⟩,?_⟩⟩
  ·have h1:=uj.o.setB hi true
   have uN:i<(l.set i (⟨true,l[i].1.f,l[i].1.u⟩,l[i].2)).length:=by rw[dZ];exact hi
   have h2:=h1.a4j uN (Df c) none 0 (Nh _) (fun _ h=>by cases h) (fun h=>absurd rfl h) (fun h=>absurd rfl h)
   rw[mJ] at h2
   simpa using h2
  ·have h:=zF.o.set (k:=g) (.inl rfl) (i*16) (.bool true)
   exact⟨(Au _ _ _).1.trans h.os,(Au _ _ _).2.1.trans h.tape,(Au _ _ _).2.2.trans h.output,by rw[setCells_size];exact h.size,fun k h1 h2=>(Af h2 _ _ _).trans (h.block k h1 h2)⟩
end
section
open Deep
def Yb(Xb:Ex)(w:Wq)(B lo:Nat)(Z:Nat->Prop)(dw g cT:Nat)(l:List (Tk × TkV))(i:Nat)(M':Mm)(f':Fr)(h':List Int)(e:lZ)(w':Wq):Prop :=
 ∃ (a:Option Addr) (c:Nat),e=.returned (.agg #[O J ((f').c).k,O J ((f').c).a,O J ((f').c).b,O J ((f').c).t,O J ((f').c).q,O J ((f').c).h,O J (f').l,O J (f').u,O J (f').p,O J (f').h,O J (f').n,Y a (f').t.length c,.bool (f').d,O J (f').e])/\Az w' a c f'.t/\(∀ ad,a=some ad->(∃ h:i<l.length,l[i].2.aK=some ad)\/w.heap.size<=ad.block)/\Has Xb w' B lo (Up w Z) M' /\
  (∃ h:i<l.length,Cf w' dw g cT (l.set i (⟨l[i].1.b,l[i].1.f,h'⟩,l[i].2)))/\Fine w w' (fun k=>Z k\/TB g l k)
theorem Cf.fine{w w':Wq}{lo g cT:Nat}{l:List (Tk × TkV)}{Z:Nat->Prop}(T:Cf w lo g cT l)(hf:Fine w w' Z)(ap:∀ k,Z k->¬ TB g l k):Cf w' lo g cT l:=T.same fun k h hk=>hf.block k h (fun hz=>ap k hz hk)
theorem set_self(h:i<l.length):l.set i (⟨l[i].1.b,l[i].1.f,l[i].1.u⟩,⟨l[i].2.aK,l[i].2.cK,l[i].2.aH,l[i].2.cH⟩)=l:=List.set_getElem_self h
theorem Cf.b5r{w w1:Wq}{lo g cT i k gh cD:Nat}{l:List (Tk × TkV)}(T:Cf w lo g cT l)(hi:i<l.length)(hk:k<l[i].1.u.length)(ha:l[i].2.aH=some ⟨gh,0,none⟩)(hc:l[i].2.cH=cD)
  (ho:w1.ownsRow lo 3 1 (Y (some ⟨gh,0,none⟩) (l[i].1.u.eraseIdx k).length cD) (l[i].1.u.eraseIdx k).length (encI (l[i].1.u.eraseIdx k))) (hf:Fine w w1 (fun j=>j=gh)) :
  Cf (w1.setCell ⟨g,i*16+15,none⟩ (Y (some ⟨gh,0,none⟩) (l[i].1.u.eraseIdx k).length cD)) lo g cT (l.set i (⟨l[i].1.b,l[i].1.f,l[i].1.u.eraseIdx k⟩,⟨l[i].2.aK,l[i].2.cK,some ⟨gh,0,none⟩,cD⟩)):=by
 refine T.setH hi (l[i].1.u.eraseIdx k) (some ⟨gh,0,none⟩) cD ?_ ho (fun j h iw=>hf.block j h (iw _ ha)) (fun x hx=>.inl ⟨⟨gh,0,none⟩,ha,by injection hx with hx;rw[<- hx]⟩)
 rw[List.length_eraseIdx_of_lt hk]
 have:=T.hm _ (bJ hi)
 omega
theorem Uo{B:Nat}{t:TypeId}:∀ (vs:List dU) (o:Nat) (w:Wq) (cs:Array dU),w.heap[B]?=some (.cells cs t (0,0))->o+vs.length<=cs.size->(w.setCells B o vs).heap[B]?=some (.cells (cs.toList.take o++vs++cs.toList.drop (o+vs.length)).toArray t (0,0))
 | [],o,w,cs,h,hl=>by rw[jZ,h];simp
 | v :: vs,o,w,cs,h,hl=>by
  rw[jZ]
  simp only[List.length_cons] at hl
  have:=Uo vs (o+1) (w.setCell ⟨B,o,none⟩ v) _ (dO (i:=o) h v) (by simp;omega)
  rw[this]
  congr 3
  have e1:(cs.toList.set o v).take (o+1)=cs.toList.take o ++ [v]:=by
   rw[List.set_eq_take_append_cons_drop,af (by simp;omega),List.take_append,jO,Nat.min_eq_left (by simp;omega),List.take_of_length_le (by rw[jO];omega),show o+1 - o=1 by omega]
   rfl
  have e2:(cs.toList.set o v).drop (o+1+vs.length)=cs.toList.drop (o+(v :: vs).length):=by
   rw[List.drop_set_of_lt (by omega)]
   congr 1;simp;omega
  simp only[Array.toList_setIfInBounds]
  rw[e1,e2]
  simp
theorem Bi{B:Nat}{t:TypeId}{vs:List dU}{w:Wq}{cs:Array dU}(h:w.heap[B]?=some (.cells cs t (0,0)))(hl:vs.length=cs.size):(w.setCells B 0 vs).heap[B]?=some (.cells vs.toArray t (0,0)):=by
 rw[Uo vs 0 w cs h (by omega)]
 simp[hl]
theorem Hu{w w1:Wq}{Z:Nat->Prop}{B o:Nat}{vs:List dU}(h:Fine w w1 Z)(hB:Z B\/w.heap.size<=B):Fine w (w1.setCells B o vs) Z :=
 ⟨(Au _ _ _).1.trans h.os,(Au _ _ _).2.1.trans h.tape,(Au _ _ _).2.2.trans h.output,by rw[setCells_size];exact h.size,fun k h1 h2=>(Af (fun e=>hB.elim (fun hz=>h2 (by rw[e];exact hz)) (fun hz=>by omega)) _ _ _).trans (h.block k h1 h2)⟩
theorem Mine.b0t{Xb:Ex}{w:Wq}{B lo X:Nat}{aS aH aF aL:Option Addr}{cS cH cF cL:Nat}{M:Mm}{cs:Array dU}(m:Mine Xb w B lo aS aH aF aL cS cH cF cL M)(hX:w.heap[X]?=some (.cells cs 47 (0,0))):¬ Ac B aS aH aF aL X:=by
 have iw:∀ {dw size n c2:Nat} {e:TypeId} {a2:Option Addr} {xs:List dU},w.ownsRow dw e size (Y a2 n c2) n xs->e≠47->∀ CZ,a2=some CZ->CZ.block≠X:=by
  rintro dw size n c2 e a2 xs h2 ne CZ rfl heq
  exact own_ne h2 hX ne (by show some CZ.block=_;rw[heq])
 rintro (hB|⟨CZ,e,hb⟩|⟨CZ,e,hb⟩|⟨CZ,e,hb⟩|⟨CZ,e,hb⟩)
 ·have h:=m.box
  rw[<- hB,hX] at h
  injection h with h
  injection h with _ h
  exact Ex.ne Xb 47 (by decide) h
 ·exact iw m.c.s (by decide) CZ e hb
 ·exact iw m.c.h (by decide) CZ e hb
 ·exact iw m.c.f (by decide) CZ e hb
 ·exact iw m.c.l (by decide) CZ e hb
theorem Has.cells{Xb:Ex}{w:Wq}{B lo X o:Nat}{Z:Nat->Prop}{M:Mm}{cs:Array dU}(h:Has Xb w B lo Z M)(hX:w.heap[X]?=some (.cells cs 47 (0,0)))(vs:List dU):Has Xb (w.setCells X o vs) B lo Z M:=by
 obtain⟨aS,aH,aF,aL,cS,cH,cF,cL,m,hf⟩:=h
 exact⟨aS,aH,aF,aL,cS,cH,cF,cL,m.same (by rw[setCells_size];exact aC _) (fun k _ hk=>Af (fun e=>m.b0t hX (by rw[<- e];exact hk)) _ _ _),hf⟩
theorem a7g{Xb:Ex}(M:Mm)(B lo:Nat)(Z:Nat->Prop)(g cT dw i:Nat)(l:List (Tk × TkV))(w:Wq)(H:Has Xb w B lo Z M)(hM:Ok M)(T:Cf w dw g cT l)(hi:i<l.length)(ap:∀ k,Z k->¬ TB g l k)(hsl:∀ a∈l[i].1.u,Dp M a=true)(kz:∀ p∈l,∀ a,p.2.aK=some a->a.block<w.heap.size)(zz:∀ k,Z k->k<w.heap.size) :
  aI Pg 162 #[Ae B,.pointer (some ⟨g,i*16,none⟩)] w (Yb Xb w B lo Z dw g cT l i (if l[i].1.f.c.h∈l[i].1.u then Ff M l[i].1.f.c.h else M) (Ak l[i].1.f 0) (l[i].1.u.erase l[i].1.f.c.h)):=by
 unfold Ae
 have qP:=bJ hi
 have vT:=T.glo.2
 obtain⟨oz,bi⟩:∃ o:Obj,o=.cells #[O J 0,O J 0,O J 0,O J 0,O J 0,O J 0,O J 0,O J 0,O J 0,O J 0,O J 0,Y none 0 0,.bool false,O J 0] 47:=⟨_,rfl⟩
 have b0:Below w.heap.size w (w.alloc oz):=A7 w oz
 have rC:Qi ((w.alloc oz).heap[w.heap.size]?=some oz):=fP w oz
 have wu:Qi (Cf (w.alloc oz) dw g cT l):=T.below b0
 have HH0:Qi (Has Xb (w.alloc oz) B lo Z M):=H.below b0
 obtain⟨x,hx⟩:∃ x,x=l[i].1.f.c.h:=⟨_,rfl⟩
 obtain⟨hd,xA⟩:∃ hd,hd=l[i].1.u:=⟨_,rfl⟩
 obtain⟨aD,GK⟩:∃ a,a=l[i].2.aH:=⟨_,rfl⟩
 obtain⟨cD,ET⟩:∃ a,a=l[i].2.cH:=⟨_,rfl⟩
 have c6:w.cell? ⟨g,i*16+6,none⟩=some (O J x):=by rw[hx];exact T.cell (q:=6) hi (by decide)
 have HX:Qi (x=l[i].1.f.c.h):=hx
 have HD:Qi (hd=l[i].1.u):=xA
 have WQ:Qi (aD=l[i].2.aH):=GK
 have WN:Qi (cD=l[i].2.cH):=ET
 have MR:Qi (∀ W:Wq,Cf W dw g cT l->W.cell? ⟨g,i*16+15,none⟩=some (Y aD hd.length cD)/\W.frozen? ⟨g,i*16+15,none⟩=false):=fun W TW=>⟨by rw[xA,GK,ET];exact(TW.a1i hi).1,(TW.a1i hi).2⟩
 have XT:Qi (aI Pg 78 #[Y aD hd.length cD,O J x] (w.alloc oz) fun e w'=>∃ i:Int,e=.returned (O J i)/\Vm hd x i/\(w.alloc oz)=w'):=index_first aD cD hd x _ (by rw[GK,ET,xA];exact wu.o.a8q.u _ qP)
 have e15:=(MR.o w T).1
 have YE:Qi (∀ k,Z k->¬ TB g l k):=ap
 have HSl:Qi (∀ a∈hd,Dp M a=true):=by rw[xA];exact hsl
 rw[<- hx,<- xA]
 have AO:Qi (Fine w (w.alloc oz) (fun k=>Z k\/TB g l k)):=.of_below _ b0
 have HTz:Qi (∀ (q:Tk × TkV),q.2.aK=l[i].2.aK->(∀ a,q.2.aH=some a->a.block<w.heap.size)->∀ k,w.heap.size<=k->¬ TB g (l.set i q) k):=fun q xx yZ k hk yc=>by
  rcases yc with rfl|⟨p,hp,a,ha,rfl⟩|⟨p,hp,a,ha,rfl⟩
  ·omega
  ·rcases Jw hi hp with rfl|h
   ·have:=yZ a ha;omega
   ·have:=(T.hlo h ha).2;omega
  ·rcases Jw hi hp with rfl|h
   ·rw[xx] at ha;have:=kz _ qP a ha;omega
   ·have:=kz p h a ha;omega
 have HTD:Qi (∀ a,aD=some a->a.block<w.heap.size):=fun a ha=>by rw[GK] at ha;exact(T.hlo qP ha).2
 obtain⟨M0,hM0⟩:∃ M0,M0=if x∈hd then Ff M x else M:=⟨_,rfl⟩
 obtain⟨h1,hh1⟩:∃ h1,h1=hd.erase x:=⟨_,rfl⟩
 rw[<- hM0,<- hh1]
 have HM0:Qi (M0=if x∈hd then Ff M x else M):=hM0
 have HH1:Qi (h1=hd.erase x):=hh1
 have HZz:Qi (∀ k,Z k->k<w.heap.size):=zz
 have HDj:Qi (∀ gh,aD=some ⟨gh,0,none⟩->TB g l gh/\gh≠g):=fun gh e=>by
  have e':l[i].2.aH=some ⟨gh,0,none⟩:=by rw[<- GK];exact e
  exact⟨.inr (.inl ⟨_,qP,_,e',rfl⟩),T.hg qP e'⟩
 have YJ:(w.alloc oz).heap.size=w.heap.size+1:=by simp
 clear H T ap hsl xA GK ET hx hM0 hh1 kz zz
 go_enter func162,ntmps162
 go_wp2_with fail
 rw[<- bi]
 generalize w.alloc oz=W0 at *
 subst bi
 refine XT.o.mono ?_
 rintro e w0' ⟨ix,rfl,hfi,rfl⟩
 clear XT c6 e15
 rcases hfi with ⟨rfl,NW⟩|⟨k,hk,rfl,hkx,UU⟩
 ·have e1:h1=hd:=HH1.o.trans (List.erase_of_not_mem NW)
  have e2:M0=M:=by have:=HM0.o;rw[ae NW] at this;exact this
  clear NW HM0 HH1
  obtain⟨a1,wX⟩:∃ a1,a1=aD:=⟨_,rfl⟩
  obtain⟨c1,qQ⟩:∃ c1,c1=cD:=⟨_,rfl⟩
  have yD:Qi (a1=l[i].2.aH):=wX.trans WQ.o
  have tX:Qi (c1=l[i].2.cH):=qQ.trans WN.o
  have TW:Qi (Cf W0 dw g cT (l.set i (⟨l[i].1.b,l[i].1.f,h1⟩,⟨l[i].2.aK,l[i].2.cK,a1,c1⟩))):=by
   rw[e1,wX,qQ,HD.o,WQ.o,WN.o,set_self hi];exact wu.o
  have wM:Qi (∀ k,w.heap.size<=k->¬ TB g (l.set i (⟨l[i].1.b,l[i].1.f,h1⟩,⟨l[i].2.aK,l[i].2.cK,a1,c1⟩)) k):=HTz.o _ rfl (fun a h=>HTD.o a (by rw[<- wX];exact h))
  have HW:Qi (Has Xb W0 B lo (Up w Z) M0):=by rw[e2];exact HH0.o.mono fun k _ h=>.inl h
  clear e1 e2 wX qQ wu HH0
  have FW:Qi _:=AO
  have ZW:Qi _:=rC
  obtain⟨W,hW⟩:∃ W,W=W0:=⟨_,rfl⟩
  rw[<- hW] at TW HW FW ZW ⊢
  clear hW rC AO
  have CP:i<(l.set i (⟨l[i].1.b,l[i].1.f,h1⟩,(⟨l[i].2.aK,l[i].2.cK,a1,c1⟩:TkV))).length:=by rw[dZ];exact hi
  have lF:Qi (W.rangeAt g (i*16+1) (l[i].1.f.enc l[i].2.aK l[i].2.cK)):=by
   have h:=TW.o.Rn CP
   rw[mF] at h
   exact h
  have FO:Qi (Az W l[i].2.aK l[i].2.cK l[i].1.f.t):=by
   have h:=TW.o.t _ (bJ CP)
   rw[mF] at h
   exact h
  go_wp2_with (refine Xy rfl _ rfl rfl lF.o ?_)
  refine(Ua l[i].1.f 0 l[i].2.aK l[i].2.cK W FO.o).mono ?_
  rintro e w3 ⟨a3,c3,rfl,BC,gu⟩
  have uF:Qi (w3.heap[w.heap.size]?=_):=(gu.block _ (fC ZW.o)).trans ZW.o
  have t3:Qi (w3.there w.heap.size 0 14):=Be uF.o (by simp)
  have vK:Qi ((w3.setCells w.heap.size 0 ((Ak l[i].1.f 0).enc a3 c3)).heap[w.heap.size]?=some (.cells #[O J ((Ak l[i].1.f 0).c).k,O J ((Ak l[i].1.f 0).c).a,O J ((Ak l[i].1.f 0).c).b,O J ((Ak l[i].1.f 0).c).t,O J ((Ak l[i].1.f 0).c).q,O J ((Ak l[i].1.f 0).c).h,O J (Ak l[i].1.f 0).l,O J (Ak l[i].1.f 0).u,O J (Ak l[i].1.f 0).p,O J (Ak l[i].1.f 0).h,O J (Ak l[i].1.f 0).n,Y a3 (Ak l[i].1.f 0).t.length c3,.bool (Ak l[i].1.f 0).d,O J (Ak l[i].1.f 0).e] 47 (0,0))):=Bi uF.o rfl
  have zW:=FW.o.size
  have gm:w.heap.size<W.heap.size:=fC ZW.o
  have vJ:Qi (Has Xb (w3.setCells w.heap.size 0 ((Ak l[i].1.f 0).enc a3 c3)) B lo (Up w Z) M0):=(HW.o.below gu).cells uF.o _
  have rX:Qi (Cf (w3.setCells w.heap.size 0 ((Ak l[i].1.f 0).enc a3 c3)) dw g cT _):=(TW.o.below gu).same fun k hk yc=>Af (fun e=>wM.o k (by rw[e];exact aC _) yc) _ _ _
  have DU:Qi (Fine w (w3.setCells w.heap.size 0 ((Ak l[i].1.f 0).enc a3 c3)) (fun k=>Z k\/TB g l k)):=Hu (FW.o.below gu) (.inr (aC _))
  have uU:Qi (Az (w3.setCells w.heap.size 0 ((Ak l[i].1.f 0).enc a3 c3)) a3 c3 (Ak l[i].1.f 0).t):=Eo (Az.own BC.own FO.o.max) fun _ ad e _=>Af (by have:=(BC.lt ad e).1;omega) _ _ _
  have BX:Qi (∀ ad,a3=some ad->w.heap.size<=ad.block):=fun ad e=>by have:=(BC.lt ad e).1;omega
  clear BC gu lF FO TW HW FW ZW uF wM
  go_wp2_with (refine Bl (f:=Ak l[i].1.f 0) rfl _ _ rfl rfl rfl t3.o ?_)
  clear t3
  generalize w3.setCells w.heap.size 0 ((Ak l[i].1.f 0).enc a3 c3)=W4 at *
  refine gZ (lV results162 _ W4 w.heap.size 47 _ (0,0) _ rfl vK.o underlying47 rfl (by kernel_rfl)) rfl ?_
  exact⟨a3,c3,rfl,uU.o,fun ad e=>.inr (BX.o ad e),vJ.o,⟨hi,by have h:=rX.o;rw[yD.o,tX.o] at h;exact h⟩,DU.o⟩
 ·have e1:h1=hd.eraseIdx k:=HH1.o.trans (Ux hk hkx UU)
  have hxm:x∈hd:=by rw[<- hkx];exact bJ hk
  have e2:M0=Ff M x:=by have:=HM0.o;rw[af hxm] at this;exact this
  have gp:Qi (h1=hd.eraseIdx k):=e1
  have ai:Qi (M0=Ff M x):=e2
  have XJ:Qi (aI Pg 197 #[Ae B,O J x] W0 fun e w'=>e=.returned (.bool (decide (Eg M x≠0)))/\Has Xb w' B lo (Up W0 Z) (Ff M x)/\Fine W0 w' Z):=a1u HH0.o hM (HSl.o x hxm)
  clear e1 e2 HM0 HH1 hkx UU hxm HH0
  have zT:decide ((0:Int)<=(k:Int))=true:=by simp
  go_wp2_with fail
  refine XJ.o.mono ?_
  rintro e w1 ⟨rfl,VM,zZ⟩
  have vP:Qi (Cf w1 dw g cT l):=wu.o.fine zZ YE.o
  have tN:Qi (w1.heap[w.heap.size]?=_):=(zZ.block _ (fC rC.o) (fun h=>by have:=HZz.o _ h;omega)).trans rC.o
  have yB:Qi (Has Xb w1 B lo (Up w Z) (Ff M x)):=VM.mono fun j _ h=>h.imp id (fun h=>by omega)
  have HF1:Qi (Fine w w1 (fun k=>Z k\/TB g l k)):=AO.o.trans zZ (fun j _ h=>.inl h)
  have jv:w1.ownsRow dw 3 1 (Y aD hd.length cD) hd.length (encI hd):=by rw[WQ.o,WN.o,HD.o];exact vP.o.u _ qP
  have hhm:hd.length<=1000:=by rw[HD.o];exact vP.o.hm _ qP
  clear VM zZ wu rC AO XJ
  obtain⟨gh,bg,UV⟩:=ownsRow_form jv (by omega)
  injection UV with ER ik hf3
  subst hf3
  clear ik
  have HaG:Qi (aD=some ⟨gh,0,none⟩):=ER
  rw[ER] at jv
  have YA:Qi (aI Pg 198 #[Y (some ⟨gh,0,none⟩) hd.length cD,O J (k:Int),O J ((k:Int)+1)] w1 fun e w'=>e=.returned (Y (some ⟨gh,0,none⟩) (hd.eraseIdx k).length cD)/\w'.ownsRow dw 3 1 (Y (some ⟨gh,0,none⟩) (hd.eraseIdx k).length cD) (hd.eraseIdx k).length (encI (hd.eraseIdx k))/\Fine w1 w' (fun k=>k=gh)):=by
   have h:=b3i gh cD k (k+1) dw hd w1 jv hk rfl hhm
   rw[show (((k+1:Nat)):Int)=(k:Int)+1 by omega] at h
   exact h
  obtain⟨d0,d1⟩:=MR.o _ vP.o
  rw[ER] at d0
  clear jv
  have YV:IntKind.i64.wrap ((k:Int)+1)=(k:Int)+1:=by rw[IntKind.wrap_i64];omega
  have hgh:=HDj.o gh ER
  have hghz:gh<w.heap.size:=HTD.o _ ER
  clear ER
  go_wp2_with fail
  refine YA.o.mono ?_
  rintro e w2 ⟨rfl,lu,QV⟩
  have T2:Qi (Cf (w2.setCell ⟨g,i*16+15,none⟩ (Y (some ⟨gh,0,none⟩) (hd.eraseIdx k).length cD)) dw g cT (l.set i (⟨l[i].1.b,l[i].1.f,hd.eraseIdx k⟩,⟨l[i].2.aK,l[i].2.cK,some ⟨gh,0,none⟩,cD⟩))):=by
   have rO:k<l[i].1.u.length:=by rw[<- HD.o];exact hk
   have h:=vP.o.b5r hi rO (by rw[<- WQ.o];exact HaG.o) WN.o.symm (by rw[<- HD.o];exact lu) QV
   rw[<- HD.o] at h
   exact h
  have BD:w2.heap[g]?=w1.heap[g]?:=QV.block g (vP.o.glo.2) (fun e=>hgh.2 e.symm)
  have e15:w2.cell? ⟨g,i*16+15,none⟩=some (Y (some ⟨gh,0,none⟩) hd.length cD):=(World.cell?_of_block (a:=⟨g,i*16+15,none⟩) BD).trans d0
  have BM:w2.frozen? ⟨g,i*16+15,none⟩=false:=(World.frozen?_of_block (a:=⟨g,i*16+15,none⟩) BD).trans d1
  have HHw:Qi (Has Xb (w2.setCell ⟨g,i*16+15,none⟩ (Y (some ⟨gh,0,none⟩) (hd.eraseIdx k).length cD)) B lo (Up w Z) (Ff M x)):=by
   have h:=yB.o.fine QV (fun j _ hj e=>by
    subst e
    rcases hj with h|h
    ·exact YE.o _ h hgh.1
    ·omega)
   refine h.same (by rw[eQ];exact aC _) fun j _ hj=>dM _ _ _ _ ?_
   dsimp only
   rintro rfl
   rcases hj with h|h
   ·exact YE.o _ h (.inl rfl)
   ·omega
  have MX:Qi (Fine w (w2.setCell ⟨g,i*16+15,none⟩ (Y (some ⟨gh,0,none⟩) (hd.eraseIdx k).length cD)) (fun k=>Z k\/TB g l k)):=(HF1.o.trans QV (fun j _ h=>by subst h;exact .inr hgh.1)).set (.inl (.inr (.inl rfl))) _ _
  have PH:Qi ((w2.setCell ⟨g,i*16+15,none⟩ (Y (some ⟨gh,0,none⟩) (hd.eraseIdx k).length cD)).heap[w.heap.size]?=_):=(dM w2 ⟨g,i*16+15,none⟩ _ w.heap.size (by show w.heap.size≠g;omega)).trans ((QV.block _ (fC tN.o) (by omega)).trans tN.o)
  obtain⟨a1,wX⟩:∃ a1:Option Addr,a1=some ⟨gh,0,none⟩:=⟨_,rfl⟩
  obtain⟨c1,qQ⟩:∃ c1,c1=cD:=⟨_,rfl⟩
  have yD:Qi (a1=l[i].2.aH):=wX.trans (HaG.o.symm.trans WQ.o)
  have tX:Qi (c1=l[i].2.cH):=qQ.trans WN.o
  obtain⟨W,hW⟩:∃ W,W=w2.setCell ⟨g,i*16+15,none⟩ (Y (some ⟨gh,0,none⟩) (hd.eraseIdx k).length cD):=⟨_,rfl⟩
  rw[<- hW] at T2 HHw MX PH
  have TW:Qi (Cf W dw g cT (l.set i (⟨l[i].1.b,l[i].1.f,h1⟩,⟨l[i].2.aK,l[i].2.cK,a1,c1⟩))):=by rw[gp.o,wX,qQ];exact T2.o
  have wM:Qi (∀ k,w.heap.size<=k->¬ TB g (l.set i (⟨l[i].1.b,l[i].1.f,h1⟩,⟨l[i].2.aK,l[i].2.cK,a1,c1⟩)) k):=HTz.o _ rfl (fun a h=>by rw[wX] at h;injection h with h;rw[<- h];exact hghz)
  have HW:Qi (Has Xb W B lo (Up w Z) M0):=by rw[ai.o];exact HHw.o
  have FW:Qi (Fine w W (fun k=>Z k\/TB g l k)):=MX
  have ZW:Qi (W.heap[w.heap.size]?=_):=PH
  clear T2 HHw MX PH vP tN yB HF1 lu QV YA d0 d1 BD wX qQ
  have CP:i<(l.set i (⟨l[i].1.b,l[i].1.f,h1⟩,(⟨l[i].2.aK,l[i].2.cK,a1,c1⟩:TkV))).length:=by rw[dZ];exact hi
  have lF:Qi (W.rangeAt g (i*16+1) (l[i].1.f.enc l[i].2.aK l[i].2.cK)):=by
   have h:=TW.o.Rn CP
   rw[mF] at h
   exact h
  have FO:Qi (Az W l[i].2.aK l[i].2.cK l[i].1.f.t):=by
   have h:=TW.o.t _ (bJ CP)
   rw[mF] at h
   exact h
  have lF2:Qi ((w2.setCell ⟨g,i*16+15,none⟩ (Y (some ⟨gh,0,none⟩) (hd.eraseIdx k).length cD)).rangeAt g (i*16+1) (l[i].1.f.enc l[i].2.aK l[i].2.cK)):=by rw[<- hW];exact lF.o
  go_wp2_with (refine Xy rfl _ rfl rfl lF2.o ?_)
  rw[<- hW]
  clear hW lF2 e15 BM
  refine(Ua l[i].1.f 0 l[i].2.aK l[i].2.cK W FO.o).mono ?_
  rintro e w3 ⟨a3,c3,rfl,BC,gu⟩
  have uF:Qi (w3.heap[w.heap.size]?=_):=(gu.block _ (fC ZW.o)).trans ZW.o
  have t3:Qi (w3.there w.heap.size 0 14):=Be uF.o (by simp)
  have vK:Qi ((w3.setCells w.heap.size 0 ((Ak l[i].1.f 0).enc a3 c3)).heap[w.heap.size]?=some (.cells #[O J ((Ak l[i].1.f 0).c).k,O J ((Ak l[i].1.f 0).c).a,O J ((Ak l[i].1.f 0).c).b,O J ((Ak l[i].1.f 0).c).t,O J ((Ak l[i].1.f 0).c).q,O J ((Ak l[i].1.f 0).c).h,O J (Ak l[i].1.f 0).l,O J (Ak l[i].1.f 0).u,O J (Ak l[i].1.f 0).p,O J (Ak l[i].1.f 0).h,O J (Ak l[i].1.f 0).n,Y a3 (Ak l[i].1.f 0).t.length c3,.bool (Ak l[i].1.f 0).d,O J (Ak l[i].1.f 0).e] 47 (0,0))):=Bi uF.o rfl
  have zW:=FW.o.size
  have gm:w.heap.size<W.heap.size:=fC ZW.o
  have vJ:Qi (Has Xb (w3.setCells w.heap.size 0 ((Ak l[i].1.f 0).enc a3 c3)) B lo (Up w Z) M0):=(HW.o.below gu).cells uF.o _
  have rX:Qi (Cf (w3.setCells w.heap.size 0 ((Ak l[i].1.f 0).enc a3 c3)) dw g cT _):=(TW.o.below gu).same fun k hk yc=>Af (fun e=>wM.o k (by rw[e];exact aC _) yc) _ _ _
  have DU:Qi (Fine w (w3.setCells w.heap.size 0 ((Ak l[i].1.f 0).enc a3 c3)) (fun k=>Z k\/TB g l k)):=Hu (FW.o.below gu) (.inr (aC _))
  have uU:Qi (Az (w3.setCells w.heap.size 0 ((Ak l[i].1.f 0).enc a3 c3)) a3 c3 (Ak l[i].1.f 0).t):=Eo (Az.own BC.own FO.o.max) fun _ ad e _=>Af (by have:=(BC.lt ad e).1;omega) _ _ _
  have BX:Qi (∀ ad,a3=some ad->w.heap.size<=ad.block):=fun ad e=>by have:=(BC.lt ad e).1;omega
  clear BC gu lF FO TW HW FW ZW uF wM
  go_wp2_with (refine Bl (f:=Ak l[i].1.f 0) rfl _ _ rfl rfl rfl t3.o ?_)
  clear t3
  generalize w3.setCells w.heap.size 0 ((Ak l[i].1.f 0).enc a3 c3)=W4 at *
  refine gZ (lV results162 _ W4 w.heap.size 47 _ (0,0) _ rfl vK.o underlying47 rfl (by kernel_rfl)) rfl ?_
  exact⟨a3,c3,rfl,uU.o,fun ad e=>.inr (BX.o ad e),vJ.o,⟨hi,by have h:=rX.o;rw[yD.o,tX.o] at h;exact h⟩,DU.o⟩
end
section
open Deep Go.Sort
variable {Xb:Ex}
def a0u:Code->Code
 | .seq _ b=>b
 | c=>c
def StQ(w:Wq)(R:lZ->Wq->Prop)(e:lZ)(V:Wq):Prop :=
 ∃ (g:Fr) (a:Option Addr) (c:Nat),e=.returned (.agg #[O J g.c.k,O J g.c.a,O J g.c.b,O J g.c.t,O J g.c.q,O J g.c.h,O J g.l,O J g.u,O J g.p,O J g.h,O J g.n,Y a g.t.length c,.bool g.d,O J g.e])/\Qi (V.there (w.heap.size+1) 0 14)/\Qi ((V.setCells (w.heap.size+1) 0 (g.enc a c)).heap[w.heap.size+1]?=some (.cells #[O J g.c.k,O J g.c.a,O J g.c.b,O J g.c.t,O J g.c.q,O J g.c.h,O J g.l,O J g.u,O J g.p,O J g.h,O J g.n,Y a g.t.length c,.bool g.d,O J g.e] 47 (0,0)))/\Qi (R e (V.setCells (w.heap.size+1) 0 (g.enc a c)))
def RQ(Xb:Ex)(w:Wq)(Z:Nat->Prop)(B lo:Nat)(aK:Option Addr)(cK:Nat)(N:Mm)(G:Fr)(e:lZ)(V:Wq):Prop :=
 (e=.returned (.agg #[O J G.c.k,O J G.c.a,O J G.c.b,O J G.c.t,O J G.c.q,O J G.c.h,O J G.l,O J G.u,O J G.p,O J G.h,O J G.n,Y aK G.t.length cK,.bool G.d,O J G.e])/\Az V aK cK G.t)/\Has Xb V B lo (Up w Z) N/\Fine w V Z
theorem Ef(w:Wq){r:Bool}(h:decide (0<n)=r):aI Pg 115 #[O J n] w fun e w'=>e=.returned (.bool r)/\w=w':=by
 subst h
 go_enter func115,ntmps115
 go_wp2
 go_ret
 exact⟨rfl,rfl⟩
section
variable {w V:Wq} {Z:Nat->Prop} {B lo:Nat} {M:Mm} {f:Fr} {aK:Option Addr} {cK:Nat}
theorem Vq(h:Lk2 Xb w V Z B lo M f aK cK){G:Fr}(hr:Az w aK cK G.t)(hz:∀ ad,aK=some ad->¬ Z ad.block) :
  Qi (V.rangeAt w.heap.size 0 (f.enc aK cK))/\Qi (V.there (w.heap.size+1) 0 14)/\Qi ((V.setCells (w.heap.size+1) 0 (G.enc aK cK)).heap[w.heap.size+1]?=some (.cells #[O J G.c.k,O J G.c.a,O J G.c.b,O J G.c.t,O J G.c.q,O J G.c.h,O J G.l,O J G.u,O J G.p,O J G.h,O J G.n,Y aK G.t.length cK,.bool G.d,O J G.e] 47 (0,0)))/\Qi (RQ Xb w Z B lo aK cK M G (.returned (.agg #[O J G.c.k,O J G.c.a,O J G.c.b,O J G.c.t,O J G.c.q,O J G.c.h,O J G.l,O J G.u,O J G.p,O J G.h,O J G.n,Y aK G.t.length cK,.bool G.d,O J G.e])) (V.setCells (w.heap.size+1) 0 (G.enc aK cK))):=by
 have hs:=h.same (w2:=V.setCells (w.heap.size+1) 0 (G.enc aK cK)) (by rw[setCells_size];exact aC _) (Au _ _ _) (fun k hk=>Af hk _ _ _)
 exact⟨Aq h.fb rfl,Be h.zb (by simp),Bi h.zb rfl,⟨rfl,hr.fine hs.2 hz⟩,hs⟩
theorem Uc(h:Lk2 Xb w V Z B lo M f aK cK){G H:Fr}(hG:H=G)(hr:Az w aK cK H.t)(hz:∀ ad,aK=some ad->¬ Z ad.block) :
  StQ w (RQ Xb w Z B lo aK cK M G) (.returned (.agg #[O J H.c.k,O J H.c.a,O J H.c.b,O J H.c.t,O J H.c.q,O J H.c.h,O J H.l,O J H.u,O J H.p,O J H.h,O J H.n,Y aK H.t.length cK,.bool H.d,O J H.e])) V:=by
 subst hG
 exact⟨H,aK,cK,rfl,(Vq h hr hz).2⟩
theorem Dx(n:Nat)(hn:n=114\/n=117\/n=122\/n=124)(k:Int)(h:Lk2 Xb w V Z B lo M f aK cK){G:Fr}(hG:toF f k=G)(hr:Az w aK cK f.t)(hz:∀ ad,aK=some ad->¬ Z ad.block):aI Pg n #[O J k,Ae w.heap.size] V (StQ w (RQ Xb w Z B lo aK cK M G)):=by
 unfold Ae
 have HE:Qi _:=(h.store 6 (O J k) (toF f k) rfl)
 obtain⟨f0,f1,f2,f3,f4,f5,f6,f7,f8,f9,ay,au,aj,ak,ff,fs⟩:=A8 h.fb
 clear h
 have HX:Qi (∀ V',Lk2 Xb w V' Z B lo M (toF f k) aK cK->StQ w (RQ Xb w Z B lo aK cK M G) (.returned (.agg #[O J (((toF f k)).c).k,O J (((toF f k)).c).a,O J (((toF f k)).c).b,O J (((toF f k)).c).t,O J (((toF f k)).c).q,O J (((toF f k)).c).h,O J ((toF f k)).l,O J ((toF f k)).u,O J ((toF f k)).p,O J ((toF f k)).h,O J ((toF f k)).n,Y aK ((toF f k)).t.length cK,.bool ((toF f k)).d,O J ((toF f k)).e])) V'):=fun V' h=>Uc h hG hr hz
 clear hG hr hz
 rcases hn with rfl|rfl|rfl|rfl
 ·go_enter func114,ntmps114
  go_wp2
  exact gZ (v:=.agg #[O J (((toF f k)).c).k,O J (((toF f k)).c).a,O J (((toF f k)).c).b,O J (((toF f k)).c).t,O J (((toF f k)).c).q,O J (((toF f k)).c).h,O J ((toF f k)).l,O J ((toF f k)).u,O J ((toF f k)).p,O J ((toF f k)).h,O J ((toF f k)).n,Y aK ((toF f k)).t.length cK,.bool ((toF f k)).d,O J ((toF f k)).e]) (by simp[iH,results114,go_sem,toF]) rfl (HX.o _ (HE.o.below (A7 _ _)))
 ·go_enter func117,ntmps117
  go_wp2
  exact gZ (v:=.agg #[O J (((toF f k)).c).k,O J (((toF f k)).c).a,O J (((toF f k)).c).b,O J (((toF f k)).c).t,O J (((toF f k)).c).q,O J (((toF f k)).c).h,O J ((toF f k)).l,O J ((toF f k)).u,O J ((toF f k)).p,O J ((toF f k)).h,O J ((toF f k)).n,Y aK ((toF f k)).t.length cK,.bool ((toF f k)).d,O J ((toF f k)).e]) (by simp[iH,results117,go_sem,toF]) rfl (HX.o _ (HE.o.below (A7 _ _)))
 ·go_enter func122,ntmps122
  go_wp2
  exact gZ (v:=.agg #[O J (((toF f k)).c).k,O J (((toF f k)).c).a,O J (((toF f k)).c).b,O J (((toF f k)).c).t,O J (((toF f k)).c).q,O J (((toF f k)).c).h,O J ((toF f k)).l,O J ((toF f k)).u,O J ((toF f k)).p,O J ((toF f k)).h,O J ((toF f k)).n,Y aK ((toF f k)).t.length cK,.bool ((toF f k)).d,O J ((toF f k)).e]) (by simp[iH,results122,go_sem,toF]) rfl (HX.o _ (HE.o.below (A7 _ _)))
 ·go_enter func124,ntmps124
  go_wp2
  exact gZ (v:=.agg #[O J (((toF f k)).c).k,O J (((toF f k)).c).a,O J (((toF f k)).c).b,O J (((toF f k)).c).t,O J (((toF f k)).c).q,O J (((toF f k)).c).h,O J ((toF f k)).l,O J ((toF f k)).u,O J ((toF f k)).p,O J ((toF f k)).h,O J ((toF f k)).n,Y aK ((toF f k)).t.length cK,.bool ((toF f k)).d,O J ((toF f k)).e]) (by simp[iH,results124,go_sem,toF]) rfl (HX.o _ (HE.o.below (A7 _ _)))
theorem Xl(f:Fr)(n:Int)(aK:Option Addr)(cK:Nat)(w:Wq) :
  aI Pg 73 #[Ai f aK cK,O J n] w fun e w'=>e=.returned (.agg #[O J (((Ak f n)).c).k,O J (((Ak f n)).c).a,O J (((Ak f n)).c).b,O J (((Ak f n)).c).t,O J (((Ak f n)).c).q,O J (((Ak f n)).c).h,O J ((Ak f n)).l,O J ((Ak f n)).u,O J ((Ak f n)).p,O J ((Ak f n)).h,O J ((Ak f n)).n,Y aK ((Ak f n)).t.length cK,.bool ((Ak f n)).d,O J ((Ak f n)).e])/\Below w.heap.size w w':=by
 unfold Ai
 go_enter func73,ntmps73
 go_wp2
 refine gZ (v:=.agg #[O J (((Ak f n)).c).k,O J (((Ak f n)).c).a,O J (((Ak f n)).c).b,O J (((Ak f n)).c).t,O J (((Ak f n)).c).q,O J (((Ak f n)).c).h,O J ((Ak f n)).l,O J ((Ak f n)).u,O J ((Ak f n)).p,O J ((Ak f n)).h,O J ((Ak f n)).n,Y aK ((Ak f n)).t.length cK,.bool ((Ak f n)).d,O J ((Ak f n)).e]) (by simp[iH,results73,go_sem,Ak]) rfl ⟨rfl,?_⟩
 repeat (first|exact Below.refl _ _|refine Below.alloc ?_ (by simp <;> omega) _|refine Below.setCell ?_ (by simp <;> omega) _)
theorem Bz(h:Lk2 Xb w V Z B lo M f aK cK){G:Fr}(hG:Ak f n=G)(hr:Az w aK cK f.t)(hz:∀ ad,aK=some ad->¬ Z ad.block):aI Pg 73 #[Ai f aK cK,O J n] V (StQ w (RQ Xb w Z B lo aK cK M G)) :=
 (Xl f n aK cK V).mono fun _ _ ⟨h1,h2⟩=>h1 ▸ Uc (h.below h2) hG hr hz
end
structure LH(Xb:Ex)(w w1:Wq)(B lo:Nat)(aS aH aF aL:Option Addr)(cS cH cF cL:Nat)(M:Mm)(f:Fr)(aK:Option Addr)(cK b:Nat):Prop where
 e:Qi (Lk Xb w w1 B lo aS aH aF aL cS cH cF cL M f aK cK)
 r:Qi (Az w aK cK f.t)
 z:Qi (∀ ad,aK=some ad->¬ Ac B aS aH aF aL ad.block)
 ok:Qi (Ok M)
 fit:Qi (Fit M f)
 bl:b<M.h.length
 bb:Qi (Fz M.h.length f.c=b)
 ns:M.s.length<=12
 nh:M.h.length<=4
section
variable {w w1:Wq} {B lo:Nat} {aS aH aF aL:Option Addr} {cS cH cF cL:Nat} {M:Mm} {f:Fr} {aK:Option Addr} {cK b:Nat}
theorem Lk.Jd(h:Lk Xb w w1 B lo aS aH aF aL cS cH cF cL M f aK cK)(ns:M.s.length<=12){j:Nat}(hj:j<M.s.length):∃ gS,aS=some ⟨gS,0,none⟩/\gS<w1.heap.size/\w1.cell? ⟨gS,j*6,none⟩=some (O J (Aa M j).refs)/\w1.cell? ⟨gS,j*6+1,none⟩=some (O J (Aa M j).a)/\w1.cell? ⟨gS,j*6+2,none⟩=some (O J (Aa M j).b)/\w1.cell? ⟨gS,j*6+3,none⟩=some (O J (Aa M j).unt)/\w1.cell? ⟨gS,j*6+4,none⟩=some (.bool (Aa M j).inn)/\w1.cell? ⟨gS,j*6+5,none⟩=some (O J (Aa M j).next):=by
 obtain⟨gS,hS,oS,lS,kS,-⟩:=C9 h.m.c.s (by omega)
 have hO:=h.m.c.s
 rw[hS] at hO
 obtain⟨x0,x1,x2,x3,x4,x5,-⟩:=D7 hO hj rfl
 exact⟨gS,hS,cell_lt x0,x0,x1,x2,x3,x4,x5⟩
theorem LH.head(h:LH Xb w w1 B lo aS aH aF aL cS cH cF cL M f aK cK b):∃ gH,aH=some ⟨gH,0,none⟩/\w1.cell? ⟨gH,b,none⟩=some (O J (Bq M b)):=by
 have:=h.nh
 have gy:=h.bl
 obtain⟨gH,hH,oH,lH,-,-⟩:=C9 h.e.o.m.c.h (by omega)
 have hO:=h.e.o.m.c.h
 rw[hH] at hO
 refine⟨gH,hH,?_⟩
 rw[(Gf hO gy).1]
 simp[Bq,List.getD_eq_getElem?_getD,gy]
theorem LH.seq(s:Sl)(f:Fr)(W:Wq):(Op.equalIn 10000 30 (.agg #[O J s.a,O J s.b]) (.agg #[O J f.c.a,O J f.c.b])).run Pg W=.ok (lkK s f) W:=by rw[Zq];rfl
end
end
end Go.Proofs.YthhgoenomehobaaGreat.mm
