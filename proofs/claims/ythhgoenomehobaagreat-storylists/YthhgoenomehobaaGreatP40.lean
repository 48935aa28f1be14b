/- Parts. -/
import Derived.Test.YthhgoenomehobaaGreatP07
import Derived.Test.YthhgoenomehobaaGreatP02
import Derived.Test.YthhgoenomehobaaGreatP39
import Derived.Test.YthhgoenomehobaaGreatP03
import Derived.Test.YthhgoenomehobaaGreatP38
namespace Go.Proofs.YthhgoenomehobaaGreat.mm
set_option maxRecDepth 100000
set_option linter.unusedVariables false
open Go.Value renaming int → O, slice → Y
open Go.IntKind renaming i64 → J
section
open Go Go.RowKit
def updR(x:Nat->Value)(d:Nat)(v:Value):Nat->Value:=fun k=>if k=d then v else x k
theorem Ap{P:Program}{ops:Array Oper}{Q:Exit->Act->World->Prop}{i:Nat}{o:Oper}{a:Act}{w w':World}{v:Value}{K:Act->World->Prop}(hi:ops[i]?=some o)(hw:Region.wanted o (yielded ops a.tmps)=true)
  (hr:(execOp a.eval o).run P w=.ok (.value v) w') (h:K (a.put o.dst v) w'):wpOp P ops Q i K a w:=by
 refine wpOp_step hi fun K' hK=>?_
 rw[if_pos hw]
 unfold Oper.wp
 rw[hr]
 exact hK _ _ h
theorem a0x{P:Program}{ops:Array Oper}{Q:Exit->Act->World->Prop}{i:Nat}{o:Oper}{a:Act}{w:World}{f:Nat}{args:Array Value}{K:Act->World->Prop}(hi:ops[i]?=some o)(hw:Region.wanted o (yielded ops a.tmps)=true)
  (hr:(execOp a.eval o).run P w=.ok (.enter f args) w) (h:Calls P f args w fun e w'=>∃ v,e=.returned v/\K (a.put o.dst v) w'):wpOp P ops Q i K a w:=by
 refine wpOp_step hi fun K' hK=>?_
 rw[if_pos hw]
 unfold Oper.wp
 rw[hr]
 refine Calls.mono h ?_
 rintro e w' ⟨v,rfl,hv⟩
 exact hK _ _ hv
theorem Ae{o:Oper}{f:Nat->Option Bool}(h:o.guard=none):Region.wanted o f=true:=by unfold Region.wanted;rw[h]
theorem Pv{md:Region.Mode}{ops:Array Oper}{listed:Array Bool}(hr:Region.ready md ops listed=[])(hs:listed.size=ops.size)
  (he:((List.range ops.size).all fun i=>((ops[i]?).map fun o=>o.after.all fun e=>decide (e.on<i)).getD true)=true):∀ n i,i<n->i<ops.size->listed.getD i false=true
 | 0,i,h,_=>by omega
 | n+1,i,h,hi=>by
  cases hl:listed.getD i false with
  | true=>rfl
  | false =>
   exfalso
   have hlt:listed.getD i true=false:=by
    simpa [Array.getD_eq_getD_getElem?,hs,hi] using hl
   have hm:i∈Region.ready md ops listed:=by
    unfold Region.ready
    rw[List.mem_filter]
    refine⟨by simpa using hi,?_⟩
    rw[hlt]
    have h1:=List.all_eq_true.1 he i (by simpa using hi)
    have ho:ops[i]?=some ops[i]:=Array.getElem?_eq_getElem hi
    rw[ho] at h1 ⊢
    simp only[Option.map_some,Option.getD_some] at h1 ⊢
    simp only[Bool.not_false,Bool.true_and]
    rw[Array.all_eq_true'] at h1 ⊢
    intro e hm
    have h2:=h1 e hm
    have h3:e.on<i:=by simpa using h2
    rw[Pv hr hs he n e.on (by omega) (by omega)]
    simp
   rw[hr] at hm
   cases hm
theorem L9{md:Region.Mode}{ops:Array Oper}{listed:Array Bool}(hr:Region.ready md ops listed=[])(hs:listed.size=ops.size)
  (he:((List.range ops.size).all fun i=>((ops[i]?).map fun o=>o.after.all fun e=>decide (e.on<i) || !Region.binds md e).getD true)=true):∀ n i,i<n->i<ops.size->listed.getD i false=true
 | 0,i,h,_=>by omega
 | n+1,i,h,hi=>by
  cases hl:listed.getD i false with
  | true=>rfl
  | false =>
   exfalso
   have hlt:listed.getD i true=false:=by
    simpa [Array.getD_eq_getD_getElem?,hs,hi] using hl
   have hm:i∈Region.ready md ops listed:=by
    unfold Region.ready
    rw[List.mem_filter]
    refine⟨by simpa using hi,?_⟩
    rw[hlt]
    have h1:=List.all_eq_true.1 he i (by simpa using hi)
    have ho:ops[i]?=some ops[i]:=Array.getElem?_eq_getElem hi
    rw[ho] at h1 ⊢
    simp only[Option.map_some,Option.getD_some] at h1 ⊢
    simp only[Bool.not_false,Bool.true_and]
    rw[Array.all_eq_true'] at h1 ⊢
    intro e hm
    have h2:=h1 e hm
    cases hb:Region.binds md e with
    | false=>simp
    | true =>
     rw[hb] at h2
     have h3:e.on<i:=by simpa using h2
     rw[L9 hr hs he n e.on (by omega) (by omega)]
     simp
   rw[hr] at hm
   cases hm
theorem S9{P:Program}{ops:Array Oper}{Q:Exit->Act->World->Prop}{id:Nat}{a:Act}{w0:World}(hm:P.follows .mixedOrders=true)(mk:(Nat->Value)->Act)(ha:a=mk fun k=>a.tmps.getD k undef)(D:List Nat)(hN:D.Nodup)(hD:D.length=ops.size)
  (he:((List.range ops.size).all fun i=>((ops[i]?).map fun o=>o.after.all fun e=>decide (e.on<i) || !Region.binds .any e).getD true)=true)
  (φ:Nat->Value->World->Prop) (mono:∀ i v w w',φ i v w->Below w.heap.size w w'->φ i v w')
  (step:∀ i,i<ops.size->∀ x W,Below w0.heap.size w0 W->(∀ d,d ∉ D->x d=a.tmps.getD d undef) ->
   (∀ k,(((ops[i]?).map fun o=>o.after.any fun e=>e.on==k && Region.binds .any e).getD false)=true->φ k (x (D.getD k 0)) W) ->
   wpOp P ops Q i (fun a' W'=>∃ v,a'=mk (updR x (D.getD i 0) v)/\φ i v W'/\Below W.heap.size W W') (mk x) W)
  (fin:∀ x W,Below w0.heap.size w0 W->(∀ d,d ∉ D->x d=a.tmps.getD d undef)->(∀ i,i<ops.size->φ i (x (D.getD i 0)) W)->Q .normal (mk x) W):(Code.region id ops true).wp P Q a w0:=by
 refine J6 hm (fun listed a' W=>∃ x,a'=mk x/\listed.size=ops.size/\Below w0.heap.size w0 W/\(∀ d,d ∉ D->x d=a.tmps.getD d undef)/\∀ i,i<ops.size->listed.getD i false=true->φ i (x (D.getD i 0)) W) ?_ ?_ ?_
 ·refine⟨_,ha,by simp,(Below.refl _ _).drew,fun d _=>rfl,fun i hi h=>?_⟩
  have:(Array.replicate ops.size false).getD i false=false:=by simp[Array.getD_eq_getD_getElem?,hi]
  rw[this] at h
  cases h
 ·rintro listed a' W i hi ⟨x,rfl,hs,hb,hout,hφ⟩
  obtain⟨h1,h2,o,ho,hpre⟩:=Gt hi
  refine wpOp_mono ?_ (step i h1 x W hb hout fun k hk=>?_)
  ·rintro a'' W' ⟨v,rfl,hv,hb'⟩
   refine⟨_,rfl,by simpa using hs,hb.trans (hb'.mono hb.size),fun d hd=>?_,fun j hj hl=>?_⟩
   ·have:d≠D.getD i 0:=by
     rintro rfl
     refine hd ?_
     rw[List.getD_eq_getElem?_getD,List.getElem?_eq_getElem (by omega)]
     exact List.getElem_mem _
    simp only[updR,if_neg this]
    exact hout d hd
   ·by_cases e:j=i
    ·subst e
     simp only[updR,if_pos]
     exact hv
    ·have hne:D.getD j 0≠D.getD i 0:=by
      rw[List.getD_eq_getElem?_getD,List.getD_eq_getElem?_getD,List.getElem?_eq_getElem (by omega),List.getElem?_eq_getElem (by omega)]
      simp only[Option.getD_some]
      intro hh
      exact e ((List.getElem_inj hN).1 hh)
     simp only[updR,if_neg hne]
     have e':¬ i=j:=fun h=>e h.symm
     have hl':listed.getD j false=true:=by
      simpa [Array.getD_eq_getD_getElem?,e'] using hl
     exact mono _ _ _ _ (hφ j hj hl') hb'
  ·rw[ho] at hk
   simp only[Option.map_some,Option.getD_some] at hk
   rw[Array.any_eq_true'] at hk
   obtain⟨e,hem,hek⟩:=hk
   rw[Bool.and_eq_true] at hek
   have hon:e.on=k:=by simpa using hek.1
   have hl:=hpre e hem hek.2
   rw[hon] at hl
   refine hφ k ?_ hl
   refine Nat.lt_of_not_le fun hge=>?_
   have:listed.getD k false=false:=by simp[Array.getD_eq_getD_getElem?,hs,Nat.not_lt.2 hge]
   rw[this] at hl
   cases hl
 ·rintro listed a' W hr ⟨x,rfl,hs,hb,hout,hφ⟩
  exact fin x W hb hout fun i hi=>hφ i hi (L9 hr hs he (i+1) i (by omega) hi)
theorem setL{listed:Array Bool}{i j:Nat}(h:i≠j)(b:Bool):(listed.setIfInBounds i true).getD j b=listed.getD j b:=by
 simp[Array.getD_eq_getD_getElem?,h]
theorem setS{listed:Array Bool}{i:Nat}(h:i<listed.size):(listed.setIfInBounds i true).getD i false=true:=by
 simp[Array.getD_eq_getD_getElem?,h]
theorem un_iff{listed:Array Bool}{i:Nat}(h:i<listed.size):listed.getD i true=listed.getD i false:=by
 simp[Array.getD_eq_getD_getElem?,h]
theorem Rz{P:Program}{ops:Array Oper}{Q:Exit->Act->World->Prop}{id:Nat}{a:Act}{w0:World}(hm:P.follows .mixedOrders=true)(mk:(Nat->Value)->Act)(ha:a=mk fun k=>a.tmps.getD k undef)(D:List Nat)(hN:D.Nodup)(n:Nat)(hD:D.length=n)(hn:ops.size=n+2)
  (hA:((List.range ops.size).all fun i=>((ops[i]?).map fun o=>o.after.all fun e=>decide (e.on<i)).getD true)=true)
  (he:((List.range n).all fun i=>(List.range (n+1)).any fun j=>decide (i<j) && ((ops[j]?).map fun o=>o.after.any fun e=>e.on==i && Region.binds .any e).getD false)=true)
  (he2:((ops[n+1]?).map fun o=>o.after.any fun e=>e.on==n && Region.binds .any e).getD false=true)
  (φ:Nat->Value->World->Prop) (mono:∀ i v w w',φ i v w->Below w.heap.size w w'->φ i v w')
  (step:∀ i,i<n->∀ x W,Below w0.heap.size w0 W->(∀ d,d ∉ D->x d=a.tmps.getD d undef) ->
   (∀ k,k<n->(((ops[i]?).map fun o=>o.after.any fun e=>e.on==k && Region.binds .any e).getD false)=true->φ k (x (D.getD k 0)) W) ->
   wpOp P ops Q i (fun a' W'=>∃ v,a'=mk (updR x (D.getD i 0) v)/\φ i v W'/\Below W.heap.size W W') (mk x) W)
  (fin:∀ x W,Below w0.heap.size w0 W->(∀ d,d ∉ D->x d=a.tmps.getD d undef)->(∀ i,i<n->φ i (x (D.getD i 0)) W)->wpOp P ops Q n (fun a' W'=>wpOp P ops Q (n+1) (fun a'' W''=>Q .normal a'' W'') a' W') (mk x) W):(Code.region id ops true).wp P Q a w0:=by
 -- whatever waits for what has not come up has not come up,and can't
 have wait:∀ (listed:Array Bool),(∀ j o,ops[j]?=some o->listed.getD j false=true->∀ e∈o.after,Region.binds .any e=true->listed.getD e.on false=true)->∀ i j,j<n+2->(((ops[j]?).map fun o=>o.after.any fun e=>e.on==i && Region.binds .any e).getD false)=true->listed.getD i false=false->listed.getD j false=false/\j ∉ Region.ready .any ops listed:=by
  intro listed hc i j hj h3 hl
  have ho:ops[j]?=some (ops[j]'(by omega)):=Array.getElem?_eq_getElem (by omega)
  rw[ho] at h3
  simp only[Option.map_some,Option.getD_some] at h3
  rw[Array.any_eq_true'] at h3
  obtain⟨e,hem,hek⟩:=h3
  rw[Bool.and_eq_true] at hek
  have hon:e.on=i:=by simpa using hek.1
  refine⟨?_,fun hr=>?_⟩
  ·cases hlj:listed.getD j false with
   | false=>rfl
   | true =>
    have:=hc j _ ho hlj e hem hek.2
    rw[hon,hl] at this
    cases this
  ·obtain⟨-,-,o,ho',hpre⟩:=Gt hr
   rw[ho] at ho'
   cases ho'
   have:=hpre e hem hek.2
   rw[hon,hl] at this
   cases this
 have wn:∀ (listed:Array Bool),(∀ j o,ops[j]?=some o->listed.getD j false=true->∀ e∈o.after,Region.binds .any e=true->listed.getD e.on false=true)->∀ m i,n - i<=m->i<n->listed.getD i false=false->listed.getD n false=false/\n ∉ Region.ready .any ops listed:=by
  intro listed hc m
  induction m with
  | zero=>intro i h1 h2;omega
  | succ m ih =>
   intro i h1 h2 hl
   have h3:=List.all_eq_true.1 he i (by simpa using h2)
   obtain⟨j,hj,h4⟩:=List.any_eq_true.1 h3
   rw[Bool.and_eq_true] at h4
   have hij:i<j:=by simpa using h4.1
   have hjn:j<n+1:=by simpa using hj
   have h5:=wait listed hc i j (by omega) h4.2 hl
   by_cases e:j=n
   ·subst e;exact h5
   ·exact ih j (by omega) (by omega) h5.1
 refine J6 hm (fun listed a' W=>(listed.size=ops.size/\∀ j o,ops[j]?=some o->listed.getD j false=true->∀ e∈o.after,Region.binds .any e=true->listed.getD e.on false=true) /\
  ((listed.getD n false=false/\∃ x,a'=mk x/\Below w0.heap.size w0 W/\(∀ d,d ∉ D->x d=a.tmps.getD d undef)/\∀ i,i<n->listed.getD i false=true->φ i (x (D.getD i 0)) W) \/
   (listed.getD n false=true/\listed.getD (n+1) false=false/\wpOp P ops Q (n+1) (fun a'' W''=>Q .normal a'' W'') a' W) \/
   (listed.getD (n+1) false=true/\Q .normal a' W))) ?_ ?_ ?_
 ·have hz:∀ i,(Array.replicate ops.size false).getD i false=false:=fun i=>by
   by_cases hi:i<ops.size <;> simp[Array.getD_eq_getD_getElem?,hi]
  refine⟨⟨by simp,fun j o _ hj=>?_⟩,.inl ⟨hz n,_,ha,(Below.refl _ _).drew,fun d _=>rfl,fun i hi h=>?_⟩⟩
  ·rw[hz] at hj;cases hj
  ·rw[hz] at h;cases h
 ·rintro listed a' W i hi ⟨⟨hs,hc⟩,hJ⟩
  obtain⟨h1,h2,o,ho,hpre⟩:=Gt hi
  rw[un_iff (by omega)] at h2
  have hc':∀ j o,ops[j]?=some o->(listed.setIfInBounds i true).getD j false=true->∀ e∈o.after,Region.binds .any e=true->(listed.setIfInBounds i true).getD e.on false=true:=by
   intro j o' hj hl e hem heb
   have h3:listed.getD e.on false=true:=by
    by_cases ej:i=j
    ·subst ej
     rw[ho] at hj
     cases hj
     exact hpre e hem heb
    ·rw[setL ej] at hl
     exact hc j o' hj hl e hem heb
   by_cases ee:i=e.on
   ·rw[<- ee];exact setS (by omega)
   ·rw[setL ee];exact h3
  have hs':(listed.setIfInBounds i true).size=ops.size:=by simpa using hs
  rcases hJ with ⟨hl,x,rfl,hb,hout,hφ⟩|⟨hl,hl1,hw⟩|⟨hl1,hw⟩
  ·have hl1:=wait listed hc n (n+1) (by omega) he2 hl
   by_cases hin:i<n
   ·refine wpOp_mono ?_ (step i hin x W hb hout fun k hkn hk=>?_)
    ·rintro a'' W' ⟨v,rfl,hv,hb'⟩
     refine⟨⟨hs',hc'⟩,.inl ⟨by rw[setL (by omega)];exact hl,_,rfl,hb.trans (hb'.mono hb.size),fun d hd=>?_,fun j hj hlj=>?_⟩⟩
     ·have:d≠D.getD i 0:=by
       rintro rfl
       refine hd ?_
       rw[List.getD_eq_getElem?_getD,List.getElem?_eq_getElem (by omega)]
       exact List.getElem_mem _
      simp only[updR,if_neg this]
      exact hout d hd
     ·by_cases e:j=i
      ·subst e
       simp only[updR,if_pos]
       exact hv
      ·have hne:D.getD j 0≠D.getD i 0:=by
        rw[List.getD_eq_getElem?_getD,List.getD_eq_getElem?_getD,List.getElem?_eq_getElem (by omega),List.getElem?_eq_getElem (by omega)]
        simp only[Option.getD_some]
        intro hh
        exact e ((List.getElem_inj hN).1 hh)
       simp only[updR,if_neg hne]
       rw[setL (fun h=>e h.symm)] at hlj
       exact mono _ _ _ _ (hφ j hj hlj) hb'
    ·rw[ho] at hk
     simp only[Option.map_some,Option.getD_some] at hk
     rw[Array.any_eq_true'] at hk
     obtain⟨e,hem,hek⟩:=hk
     rw[Bool.and_eq_true] at hek
     have hon:e.on=k:=by simpa using hek.1
     have hlk:=hpre e hem hek.2
     rw[hon] at hlk
     exact hφ k hkn hlk
   ·by_cases hin2:i=n
    ·subst hin2
     have hall:∀ k,k<i->listed.getD k false=true:=fun k hk=>by
      cases hlk:listed.getD k false with
      | true=>rfl
      | false=>exact absurd hi (wn listed hc _ k (Nat.le_refl _) hk hlk).2
     refine wpOp_mono ?_ (fin x W hb hout fun k hk=>hφ k hk (hall k hk))
     intro a'' W' hw
     exact⟨⟨hs',hc'⟩,.inr (.inl ⟨setS (by omega),by rw[setL (by omega)];exact hl1.1,hw⟩)⟩
    ·have:i=n+1:=by omega
     subst this
     exact absurd hi hl1.2
  ·have:i=n+1:=by
    by_cases hin:i<n
    ·have:=(wn listed hc _ i (Nat.le_refl _) hin h2).1
     rw[hl] at this
     cases this
    ·by_cases hin2:i=n
     ·subst hin2
      rw[hl] at h2
      cases h2
     ·omega
   subst this
   refine wpOp_mono ?_ hw
   intro a'' W' hq
   exact⟨⟨hs',hc'⟩,.inr (.inr ⟨setS (by omega),hq⟩)⟩
  ·exfalso
   have hl:listed.getD n false=true:=by
    cases hl:listed.getD n false with
    | true=>rfl
    | false =>
     have:=(wait listed hc n (n+1) (by omega) he2 hl).1
     rw[hl1] at this
     cases this
   by_cases hin:i<n
   ·have:=(wn listed hc _ i (Nat.le_refl _) hin h2).1
    rw[hl] at this
    cases this
   ·by_cases hin2:i=n
    ·subst hin2
     rw[hl] at h2
     cases h2
    ·have:i=n+1:=by omega
     subst this
     rw[hl1] at h2
     cases h2
 ·rintro listed a' W hr ⟨⟨hs,hc⟩,hJ⟩
  have all:=Pv hr hs hA
  rcases hJ with ⟨hl,-⟩|⟨-,hl,-⟩|⟨-,hw⟩
  ·rw[all (n+1) n (by omega) (by omega)] at hl;cases hl
  ·rw[all (n+2) (n+1) (by omega) (by omega)] at hl;cases hl
  ·exact hw
end
section
open Go.ChangeShapes Go.WideShapes Go.ChangeAt Go.RowKit Go.Joins Go.Deep Go.Maps
structure PRow(w:World)(ao:Option Addr)(cap:Nat)(l:List Pk):Prop where
 le:l.length<=cap
 max:l.length*64<=140737488355328
 nil:ao=none->cap=0
 at_:l.length=0\/∃ b o,ao=some ⟨b,o,none⟩/\∀ i (h:i<l.length),w.rangeAt b (o+i*9) [O J (l[i]).task,.bool (l[i]).step,.bool (l[i]).tick,O J ((l[i]).c).kind,O J ((l[i]).c).a,O J ((l[i]).c).b,O J ((l[i]).c).time,O J ((l[i]).c).bk,O J ((l[i]).c).slot]
theorem PRow.below{w w':World}{ao:Option Addr}{cap:Nat}{l:List Pk}(r:PRow w ao cap l)(hb:Below w.heap.size w w'):PRow w' ao cap l:=by
 refine⟨r.le,r.max,r.nil,?_⟩
 rcases r.at_ with h|⟨b,o,h,hc⟩
 ·exact .inl h
 ·refine .inr ⟨b,o,h,fun i hi=>?_⟩
  have h0:=hc i hi 0 _ rfl
  exact Dc (hc i hi) hb (cell_lt h0)
end
section
open Go.ChangeShapes Go.WideShapes Go.ChangeAt Go.RowKit Go.Joins Go.Deep Go.Sort
set_option maxHeartbeats 3200000 in
theorem Qh(M:Mm)(aS aH aF aL:Option Addr)(cS cH cF cL:Nat)(w:World)(A:At w aS aH aF aL cS cH cF cL M) :
  Calls Tryz.prog 55 #[.agg #[Y aS M.slots.length cS,Y aH M.heads.length cH,Y aF M.free.length cF,Y aL M.locks.length cL,O J M.now]] w fun e w' =>
   ∃ ao cap,e=.returned (.tuple #[Y ao (Eu M).length cap,O J (chkC M)])/\w'.ownsRow w.heap.size 61 4 (Y ao (Eu M).length cap) (Eu M).length (encF (Eu M))/\Below w.heap.size w w':=by
 obtain⟨E0,hE0⟩:∃ E0,E0=chkC M:=⟨_,rfl⟩
 obtain⟨L0,hL0⟩:∃ L0,L0=Eu M:=⟨_,rfl⟩
 rw[<- hE0,<- hL0]
 have HE0:Hid (E0=chkC M):=hE0
 have HL0:Hid (L0=Eu M):=hL0
 clear hE0 hL0
 obtain⟨o1,ho1⟩:∃ o:Obj,o=.cells #[Y aS M.slots.length cS,Y aH M.heads.length cH,Y aF M.free.length cF,Y aL M.locks.length cL,O J M.now] 25:=⟨_,rfl⟩
 have b0:Below w.heap.size w (w.alloc o1):=Aa w o1
 have HB0:Hid ((w.alloc o1).heap[w.heap.size]?=some o1):=heap_alloc_new _ _
 have HA:Hid (At w aS aH aF aL cS cH cF cL M):=A
 have HA0:Hid _:=A.below b0
 clear A
 have hmf:∀ (fn:Fn) (first cap:Array Value) (w:World),(Instr.makeFunc fn first cap).run Tryz.prog w=.ok (.func fn first cap) w:=fun _ _ _ _=>rfl
 go_enter Tryz.func55,Tryz.ntmps55
 go_wp2_with fail
 rw[<- ho1]
 generalize w.alloc o1=W0 at *
 subst ho1
 refine(Rt M aS aH aF aL cS cH cF cL W0 HA0.out).mono ?_
 rintro e w1 ⟨rfl,hb1⟩
 have b1:=b0.trans (hb1.mono b0.size)
 have HB1:Hid (w1.heap[w.heap.size]?=_):=(hb1.block w.heap.size (lt_of_block HB0.out)).trans HB0.out
 clear hb1 b0 HB0 HA0
 by_cases hE:chkC M=0
 rotate_left
 ·have h':(chkC M != 0)=true:=by simpa using hE
  have HV:Hid (E0=chkC M/\L0=[]):=⟨HE0.out,HL0.out.trans (by unfold Eu;rw[if_neg hE])⟩
  clear HB1
  generalize chkC M=E at *
  go_wp2
  go_ret2
  exact⟨none,0,by rw[HV.out.1,HV.out.2];rfl,by rw[HV.out.2];exact World.ownsRow_nil _ _ _ _,b1⟩
 have hokc:=(Q9 M).1 hE
 have hok:=hokc.ok
 have n0:=hok.ns
 have n1:=hok.nh
 have HV:Hid (E0=0/\L0=(allC M).map (Ec M)):=⟨HE0.out.trans hE,HL0.out.trans (by unfold Eu;rw[if_pos hE])⟩
 rw[hE]
 clear hE HE0 HL0
 obtain⟨q0,q1,q2,q3,q4,f0,f1,f2,f3,f4,qs⟩:=boxf HB1.out
 clear f0 f1 f2 f3 f4
 obtain⟨B,hB⟩:∃ B,B=w1.heap.size:=⟨_,rfl⟩
 have HBe:Hid (B=w1.heap.size):=hB
 have HV1:Hid ((w1.alloc (.cells #[Y none 0 0] 56)).heap[B]?=some (.cells #[Y none 0 0] 56)):=by rw[hB];exact heap_alloc_new _ _
 have HX1:Hid ((w1.alloc (.cells #[Y none 0 0] 56)).heap[w.heap.size]?=some (.cells #[Y aS M.slots.length cS,Y aH M.heads.length cH,Y aF M.free.length cF,Y aL M.locks.length cL,O J M.now] 25 (0,0))):=(Below.heap_alloc _ _ _ qs).trans HB1.out
 have b2:=b1.alloc b1.size (.cells #[Y none 0 0] 56)
 have bX:w.heap.size<B:=by rw[hB];exact qs
 go_wp2
 rw[<- hB]
 clear hB q0 q1 q2 q3 q4 HB1
 go_loopw [15] (fun i wr=>∃ b:Nat,b<=M.heads.length/\i=O J b/\(∃ v,Hid (wr.heap[B]?=some (.cells #[v] 56 (0,0)))/\Hid (wr.ownsRow (B+1) 61 4 v ((Bo M b).map (Ec M)).length (encF ((Bo M b).map (Ec M)))))/\Below w.heap.size w wr/\Hid (wr.heap[w.heap.size]?=some (.cells #[Y aS M.slots.length cS,Y aH M.heads.length cH,Y aF M.free.length cF,Y aL M.locks.length cL,O J M.now] 25 (0,0))))
  (fun i _=>M.heads.length - (intOf i).toNat)
 case atStart=>exact⟨0,Nat.zero_le _,rfl,⟨_,HV1,World.ownsRow_nil _ _ _ _⟩,b2,HX1⟩
 case round =>
  obtain⟨b,hb,rfl,⟨v,HVr,HOr⟩,hbw,HX⟩:=hrel
  clear HV1 HX1 b2 b1
  obtain⟨q0,q1,q2,q3,q4,f0,f1,f2,f3,f4,qs'⟩:=boxf HX.out
  clear f0 f1 f2 f3 f4
  have lB:=lt_of_block HVr.out
  by_cases hlt:b<M.heads.length
  ·have hal:=Lh M b
   have hal2:b*M.slots.length<=4*12:=Nat.mul_le_mul (by omega) n0
   go_wp2_with fail
   have hst:Lst wr B wr.heap.size 56 61 4 #[Y aS M.slots.length cS,Y aH M.heads.length cH,Y aF M.free.length cF,Y aL M.locks.length cL,O J M.now] (wr.alloc (.cells #[Y aS M.slots.length cS,Y aH M.heads.length cH,Y aF M.free.length cF,Y aL M.locks.length cL,O J M.now] 25)) ((Bo M b ++ []).map (Ec M)).length (encF ((Bo M b ++ []).map (Ec M))):=by
    rw[List.append_nil]
    refine⟨⟨v,(Below.heap_alloc _ _ _ lB).trans HVr.out,World.ownsRow.alloc HOr.out _⟩,heap_alloc_new _ _,(Below.refl _ _).alloc (by omega) _,by omega⟩
   refine(walk_any 100 #[.pointer (some ⟨w.heap.size,0,none⟩),.pointer (some ⟨B,0,none⟩)] M aS aH aF aL cS cH cF cL b wr hok hlt fn72 (fun l W=>Lst wr B wr.heap.size 56 61 4 #[Y aS M.slots.length cS,Y aH M.heads.length cH,Y aF M.free.length cF,Y aL M.locks.length cL,O J M.now] W ((Bo M b++l).map (Ec M)).length (encF ((Bo M b++l).map (Ec M)))) hst (fun l W h=>h.box) (fun l W h=>HA.out.below (hbw.trans (h.below.mono (by omega)))) ?_).mono ?_
   ·intro l a W hL ha hl
    have:=app72 M aS aH aF aL cS cH cF cL _ _ w.heap.size _ _ _ _ a hL (by rw[List.length_append];omega) ((hL.below.block w.heap.size bX).trans HX.out) (HA.out.below (hbw.trans (hL.below.mono (by omega)))) ha n0
    rw[List.append_assoc] at this
    exact this
   rintro e w2 ⟨rfl,hL2⟩
   rw[<- Gs] at hL2
   obtain⟨⟨v2,hv2,ho2⟩,-,hb2,-⟩:=hL2
   have HV2:Hid (w2.heap[B]?=some (.cells #[v2] 56 (0,0))):=hv2
   have HO2:Hid (w2.ownsRow (B+1) 61 4 v2 ((Bo M (b+1)).map (Ec M)).length (encF ((Bo M (b+1)).map (Ec M)))):=ho2
   have hbx:Below w.heap.size w w2:=hbw.trans (hb2.mono (by omega))
   have HX2:Hid (w2.heap[w.heap.size]?=some (.cells #[Y aS M.slots.length cS,Y aH M.heads.length cH,Y aF M.free.length cF,Y aL M.locks.length cL,O J M.now] 25 (0,0))):=(hb2.block w.heap.size bX).trans HX.out
   clear hv2 ho2 hb2 hst HVr HOr HX hbw q0 q1 q2 q3 q4
   go_wp2
   go_roundw
   case rel=>exact⟨b+1,by omega,by go_num,⟨v2,HV2,HO2⟩,hbx,HX2⟩
   case measure=>simp[intOf];omega
  ·obtain rfl:b=M.heads.length:=by omega
   have hlen:=Lh M M.heads.length
   have hal2:M.heads.length*M.slots.length<=4*12:=Nat.mul_le_mul (by omega) n0
   obtain⟨ao,cap,rfl,hrow⟩:=FRow.Jm HOr.out (by rw[List.length_map];omega)
   have HR:Hid (wr.ownsRow w.heap.size 61 4 (Y ao ((allC M).map (Ec M)).length cap) ((allC M).map (Ec M)).length (encF ((allC M).map (Ec M)))):=ownsRow_le HOr.out (by omega)
   clear hrow
   obtain⟨c0,-,lB'⟩:=Aj HVr.out
   have hlm:((allC M).map (Ec M)).length=((Bo M M.heads.length).map (Ec M)).length:=rfl
   clear HVr HOr
   go_wp2
   go_ret2
   refine⟨ao,cap,?_,?_,hbw⟩
   ·rw[HV.out.1,HV.out.2,hlm]
    simp
   ·rw[HV.out.2];exact HR.out
end
section
open Go.ChangeShapes Go.WideShapes Go.ChangeAt Go.RowKit Go.Joins Go.Deep
theorem Vb:Tryz.prog.cellsOf 34=9:=by kernel_rfl
theorem a1h:Tryz.prog.bytesOf 34=64:=by kernel_rfl
variable {H:Type} {enc:TypeId × Value->H} {w:World}
theorem trod_struct4{P:Program}{base:Nat}{spare:Nat->Bool}{held:Bool}{t:TypeId}{f0 f1 f2 f3:Field}{fuel:Nat}{cs:List Value}{x:DataW H × List MemPlace}(ht:P.underlying t=some (.struct #[f0,f1,f2,f3]))(h:DataW.trod enc P w base spare held fuel t cs=some x) :
  ∃ y0 y1 y2 y3 n,x.1=.agg [y0.1,y1.1,y2.1,y3.1]/\cs.length=P.cellsOf t/\DataW.trod enc P w base spare held n f0.type ((cs.drop f0.offset).take (P.cellsOf f0.type))=some y0 /\
   DataW.trod enc P w base spare held n f1.type ((cs.drop f1.offset).take (P.cellsOf f1.type))=some y1/\DataW.trod enc P w base spare held n f2.type ((cs.drop f2.offset).take (P.cellsOf f2.type))=some y2 /\
   DataW.trod enc P w base spare held n f3.type ((cs.drop f3.offset).take (P.cellsOf f3.type))=some y3:=by
 obtain⟨xs,n,_,rfl,hl,hlen,hf⟩:=DataW.trod_struct ht h
 match xs,hlen with
 | [y0,y1,y2,y3],_=>exact⟨y0,y1,y2,y3,n,by simp,hl,by simpa using hf 0 f0 rfl,by simpa using hf 1 f1 rfl,by simpa using hf 2 f2 rfl,by simpa using hf 3 f3 rfl⟩
theorem nine{cs:List Value}(h:cs.length=9):∃ c0 c1 c2 c3 c4 c5 c6 c7 c8,cs=[c0,c1,c2,c3,c4,c5,c6,c7,c8]:=by
 match cs,h with
 | [c0,c1,c2,c3,c4,c5,c6,c7,c8],_=>exact⟨_,_,_,_,_,_,_,_,_,rfl⟩
theorem W9{fuel:Nat}{cs:List Value}{x:DataW H × List MemPlace}(h:DataW.trod enc Tryz.prog w 0 (fun _=>true) true fuel 34 cs=some x):∃ p:Pk,cs=[.int .i64 p.task,.bool p.step,.bool p.tick,.int .i64 p.c.kind,.int .i64 p.c.a,.int .i64 p.c.b,.int .i64 p.c.time,.int .i64 p.c.bk,.int .i64 p.c.slot]:=by
 obtain⟨y0,y1,y2,y3,n,_,hl,h0,h1,h2,h3⟩:=trod_struct4 Tryz.underlying34 h
 rw[Vb] at hl
 obtain⟨c0,c1,c2,c3,c4,c5,c6,c7,c8,rfl⟩:=nine hl
 simp only[Q7,cells3,cells4] at h0 h1 h2 h3
 obtain⟨a,e0,_⟩:=DataW.trod_int Tryz.underlying3 h0
 obtain⟨s,e1,_⟩:=DataW.trod_bool Tryz.underlying4 h1
 obtain⟨t,e2,_⟩:=DataW.trod_bool Tryz.underlying4 h2
 obtain⟨c,ec⟩:=Wv h3
 simp at e0 e1 e2 ec
 obtain⟨rfl,rfl,rfl,rfl,rfl,rfl⟩:=ec
 subst e0 e1 e2
 exact⟨⟨a,s,t,c⟩,rfl⟩
theorem open_prow{fuel:Nat}{c:Value}{x:DataW H × List MemPlace}(h:DataW.trod enc Tryz.prog w 0 (fun _=>true) true fuel 54 [c]=some x)(hz:∀ n∈x.1.weights Tryz.prog 54,n<=reachBytes) :
  ∃ l ao cap,c=.slice ao l.length cap/\PRow w ao cap l:=by
 rcases open_slice Tryz.underlying54 h with ⟨e,-⟩|⟨a,len,cap,m,n,D,Pl,e,hb,hl,hm,hmm,hx,hc⟩
 ·simp at e
  exact⟨[],none,0,e,Nat.zero_le _,by decide,fun _=>rfl,.inl rfl⟩
 ·simp at e hmm
  subst e hmm
  rw[Vb] at hc
  obtain⟨S,hS⟩:=@choose_lt Pk ⟨⟨0,false,false,⟨0,0,0,0,0,0⟩⟩⟩ len (fun i s=>w.cells? 0 (a.add (i*9)) 9=some [.int .i64 s.task,.bool s.step,.bool s.tick,.int .i64 s.c.kind,.int .i64 s.c.a,.int .i64 s.c.b,.int .i64 s.c.time,.int .i64 s.c.bk,.int .i64 s.c.slot]) (fun i hi=>by
   obtain⟨cs',h1,h2⟩:=hc i (by omega)
   obtain⟨s,rfl⟩:=W9 h2
   exact⟨s,h1⟩)
  have hlt:((List.range len).map S).length=len:=by simp
  refine⟨(List.range len).map S,some a,m,by rw[hlt],by omega,?_,(fun h=>by cases h),?_⟩
  ·rw[hx] at hz
   have:=hz ((len+(m - len))*64) (by simp[DataW.weights,Tryz.underlying54,a1h])
   unfold reachBytes at this
   rw[hlt]
   omega
  ·by_cases h0:len=0
   ·left;omega
   ·right
    obtain⟨b,off,spot⟩:=a
    have hspot:spot=none:=by
     have:=(World.cells?_some (hS 0 (by omega))).2.2 0 (by omega)
     simpa [Addr.add] using World.cell?_spot this
    subst hspot
    refine⟨b,off,rfl,fun i hi=>?_⟩
    have hi':i<len:=by simpa using hi
    have e:((List.range len).map S)[i]=S i:=by simp
    rw[e]
    intro q v hv
    have hq:q<9:=by simpa using (List.getElem?_eq_some_iff.1 hv).1
    have:=(World.cells?_some (hS i hi')).2.2 q hq
    rw[Addr.add_lit,Addr.add_lit] at this
    rw[this];exact hv
end
section
open Go.ChangeShapes Go.WideShapes Go.ChangeAt Go.RowKit Go.Joins Go.Deep
def Played:Prop:=∀ w:World,Calls Tryz.prog 18 #[] w fun e w'=>e=.returned (.bool true)/\Below w.heap.size w w'
end
section
open Go.ChangeShapes Go.WideShapes Go.ChangeAt Go.RowKit Go.Joins Go.Deep Go.Maps
theorem pastf{w:World}{B:Nat}{v0 v1 v2 v3 v4 v5 v6 v7 v8 v9 v10 v11 v12:Value}{t:TypeId}(h:w.heap[B]?=some (.cells #[v0,v1,v2,v3,v4,v5,v6,v7,v8,v9,v10,v11,v12] t (0,0))) :
  w.cell? ⟨B,0,none⟩=some v0/\w.cell? ⟨B,1,none⟩=some v1/\w.cell? ⟨B,2,none⟩=some v2/\w.cell? ⟨B,3,none⟩=some v3/\w.cell? ⟨B,4,none⟩=some v4/\w.cell? ⟨B,5,none⟩=some v5/\w.cell? ⟨B,6,none⟩=some v6/\w.cell? ⟨B,7,none⟩=some v7/\w.cell? ⟨B,8,none⟩=some v8/\w.cell? ⟨B,9,none⟩=some v9/\w.cell? ⟨B,10,none⟩=some v10/\w.cell? ⟨B,11,none⟩=some v11/\w.cell? ⟨B,12,none⟩=some v12/\B<w.heap.size :=
 ⟨by rw[cell_of_block h];rfl,by rw[cell_of_block h];rfl,by rw[cell_of_block h];rfl,by rw[cell_of_block h];rfl,by rw[cell_of_block h];rfl,by rw[cell_of_block h];rfl,by rw[cell_of_block h];rfl,by rw[cell_of_block h];rfl,by rw[cell_of_block h];rfl,by rw[cell_of_block h];rfl,by rw[cell_of_block h];rfl,by rw[cell_of_block h];rfl,by rw[cell_of_block h];rfl,lt_of_block h⟩
def ToldP(w:World)(f:Fr)(task fro too:Int)(e:Ending)(w':World):Prop :=
 ∃ a2 c2,e=.returned (.agg #[O J task,O J f.c.kind,O J f.c.a,O J f.c.b,O J f.c.time,O J f.c.bk,O J f.c.slot,O J fro,O J too,O J f.e,O J f.slot,O J f.n,Y a2 f.keys.length c2])/\KOwn w' w.heap.size a2 c2 f.keys/\Below w.heap.size w w'
set_option maxHeartbeats 4000000 in
theorem told_any(f:Fr)(task fro too:Int)(aK:Option Addr)(cK:Nat)(w:World)(r:KRow w aK cK f.keys) :
  Calls Tryz.prog 81 #[.agg #[O J f.c.kind,O J f.c.a,O J f.c.b,O J f.c.time,O J f.c.bk,O J f.c.slot,O J f.pl,O J f.cur,O J f.prev,O J f.slot,O J f.n,Y aK f.keys.length cK,.bool f.done,O J f.e],O J task,O J fro,O J too] w (ToldP w f task fro too):=by
 obtain⟨ox,hox⟩:∃ o:Obj,o=.cells #[O J f.c.kind,O J f.c.a,O J f.c.b,O J f.c.time,O J f.c.bk,O J f.c.slot,O J f.pl,O J f.cur,O J f.prev,O J f.slot,O J f.n,Y aK f.keys.length cK,.bool f.done,O J f.e] 47:=⟨_,rfl⟩
 obtain⟨oy,hoy⟩:∃ o:Obj,o=.cells #[O J 0,O J 0,O J 0,O J 0,O J 0,O J 0,O J 0,O J 0,O J 0,O J 0,O J 0,O J 0,Y none 0 0] 78:=⟨_,rfl⟩
 have b0:Below w.heap.size w ((w.alloc ox).alloc oy):=below_alloc2 w ox oy
 have HX0:Hid (((w.alloc ox).alloc oy).heap[w.heap.size]?=some ox):=by show _=_;rw[Below.heap_alloc _ _ _ (by simp),heap_alloc_new]
 have HY0:Hid (((w.alloc ox).alloc oy).heap[w.heap.size+1]?=some oy):=by
  have:=heap_alloc_new (w.alloc ox) oy
  rwa [show (w.alloc ox).heap.size=w.heap.size+1 by simp] at this
 have HK0:Hid (KRow ((w.alloc ox).alloc oy) aK cK f.keys):=r.below b0
 have z0:((w.alloc ox).alloc oy).heap.size=w.heap.size+2:=by simp
 clear r
 go_enter Tryz.func81,Tryz.ntmps81
 go_wp2_with fail
 rw[<- hox,<- hoy]
 generalize (w.alloc ox).alloc oy=W0 at *
 subst hox hoy
 obtain⟨f0,f1,f2,f3,f4,f5,f6,f7,f8,f9,f10,f11,f12,f13,ff,fs⟩:=A7 HX0.out
 have HS:Hid (∀ w':World,Below W0.heap.size W0 w'->w'.cell? ⟨w.heap.size,0,none⟩=some (O J f.c.kind)/\w'.cell? ⟨w.heap.size,1,none⟩=some (O J f.c.a)/\w'.cell? ⟨w.heap.size,2,none⟩=some (O J f.c.b)/\w'.cell? ⟨w.heap.size,3,none⟩=some (O J f.c.time)/\w'.cell? ⟨w.heap.size,4,none⟩=some (O J f.c.bk)/\w'.cell? ⟨w.heap.size,5,none⟩=some (O J f.c.slot)/\w'.cell? ⟨w.heap.size,6,none⟩=some (O J f.pl)/\w'.cell? ⟨w.heap.size,7,none⟩=some (O J f.cur)/\w'.cell? ⟨w.heap.size,8,none⟩=some (O J f.prev)/\w'.cell? ⟨w.heap.size,9,none⟩=some (O J f.slot)/\w'.cell? ⟨w.heap.size,10,none⟩=some (O J f.n)/\w'.cell? ⟨w.heap.size,11,none⟩=some (Y aK f.keys.length cK)/\w'.cell? ⟨w.heap.size,12,none⟩=some (.bool f.done)/\w'.cell? ⟨w.heap.size,13,none⟩=some (O J f.e)):=fun w' hb=>⟨((Ee hb).1 _ _ fs).trans f0,((Ee hb).1 _ _ fs).trans f1,((Ee hb).1 _ _ fs).trans f2,((Ee hb).1 _ _ fs).trans f3,((Ee hb).1 _ _ fs).trans f4,((Ee hb).1 _ _ fs).trans f5,((Ee hb).1 _ _ fs).trans f6,((Ee hb).1 _ _ fs).trans f7,((Ee hb).1 _ _ fs).trans f8,((Ee hb).1 _ _ fs).trans f9,((Ee hb).1 _ _ fs).trans f10,((Ee hb).1 _ _ fs).trans f11,((Ee hb).1 _ _ fs).trans f12,((Ee hb).1 _ _ fs).trans f13⟩
 have HS3:Hid (∀ w2:World,Below W0.heap.size W0 w2->∀ w':World,(∀ k,k≠w.heap.size+1->w'.heap[k]?=w2.heap[k]?)->w'.cell? ⟨w.heap.size,0,none⟩=some (O J f.c.kind)/\w'.cell? ⟨w.heap.size,1,none⟩=some (O J f.c.a)/\w'.cell? ⟨w.heap.size,2,none⟩=some (O J f.c.b)/\w'.cell? ⟨w.heap.size,3,none⟩=some (O J f.c.time)/\w'.cell? ⟨w.heap.size,4,none⟩=some (O J f.c.bk)/\w'.cell? ⟨w.heap.size,5,none⟩=some (O J f.c.slot)/\w'.cell? ⟨w.heap.size,6,none⟩=some (O J f.pl)/\w'.cell? ⟨w.heap.size,7,none⟩=some (O J f.cur)/\w'.cell? ⟨w.heap.size,8,none⟩=some (O J f.prev)/\w'.cell? ⟨w.heap.size,9,none⟩=some (O J f.slot)/\w'.cell? ⟨w.heap.size,10,none⟩=some (O J f.n)/\w'.cell? ⟨w.heap.size,11,none⟩=some (Y aK f.keys.length cK)/\w'.cell? ⟨w.heap.size,12,none⟩=some (.bool f.done)/\w'.cell? ⟨w.heap.size,13,none⟩=some (O J f.e)):=fun w2 hb w' hk=>by
  have h:=HS.out w2 hb
  exact⟨(World.cell?_of_block (hk w.heap.size (by omega))).trans h.1,(World.cell?_of_block (hk w.heap.size (by omega))).trans h.2.1,(World.cell?_of_block (hk w.heap.size (by omega))).trans h.2.2.1,(World.cell?_of_block (hk w.heap.size (by omega))).trans h.2.2.2.1,(World.cell?_of_block (hk w.heap.size (by omega))).trans h.2.2.2.2.1,(World.cell?_of_block (hk w.heap.size (by omega))).trans h.2.2.2.2.2.1,(World.cell?_of_block (hk w.heap.size (by omega))).trans h.2.2.2.2.2.2.1,(World.cell?_of_block (hk w.heap.size (by omega))).trans h.2.2.2.2.2.2.2.1,(World.cell?_of_block (hk w.heap.size (by omega))).trans h.2.2.2.2.2.2.2.2.1,(World.cell?_of_block (hk w.heap.size (by omega))).trans h.2.2.2.2.2.2.2.2.2.1,(World.cell?_of_block (hk w.heap.size (by omega))).trans h.2.2.2.2.2.2.2.2.2.2.1,(World.cell?_of_block (hk w.heap.size (by omega))).trans h.2.2.2.2.2.2.2.2.2.2.2.1,(World.cell?_of_block (hk w.heap.size (by omega))).trans h.2.2.2.2.2.2.2.2.2.2.2.2.1,(World.cell?_of_block (hk w.heap.size (by omega))).trans h.2.2.2.2.2.2.2.2.2.2.2.2.2⟩
 have HL:Hid (∀ W:World,Below W0.heap.size W0 W->Calls Tryz.prog 104 #[Y aK f.keys.length cK] W fun e w'=>∃ a c,e=.returned (Y a f.keys.length c)/\KOwn w' W.heap.size a c f.keys/\Below W.heap.size W w'):=fun W hb=>Qm aK cK f.keys W (HK0.out.below hb)
 have hz:W0.heap.size=w.heap.size+2:=z0
 have Hz:Hid (W0.heap.size=w.heap.size+2):=z0
 clear z0 hz ff
 go_region_held3 (fun w'=>w'.cell? ⟨w.heap.size,0,none⟩=some (O J f.c.kind)/\w'.cell? ⟨w.heap.size,1,none⟩=some (O J f.c.a)/\w'.cell? ⟨w.heap.size,2,none⟩=some (O J f.c.b)/\w'.cell? ⟨w.heap.size,3,none⟩=some (O J f.c.time)/\w'.cell? ⟨w.heap.size,4,none⟩=some (O J f.c.bk)/\w'.cell? ⟨w.heap.size,5,none⟩=some (O J f.c.slot)/\w'.cell? ⟨w.heap.size,6,none⟩=some (O J f.pl)/\w'.cell? ⟨w.heap.size,7,none⟩=some (O J f.cur)/\w'.cell? ⟨w.heap.size,8,none⟩=some (O J f.prev)/\w'.cell? ⟨w.heap.size,9,none⟩=some (O J f.slot)/\w'.cell? ⟨w.heap.size,10,none⟩=some (O J f.n)/\w'.cell? ⟨w.heap.size,11,none⟩=some (Y aK f.keys.length cK)/\w'.cell? ⟨w.heap.size,12,none⟩=some (.bool f.done)/\w'.cell? ⟨w.heap.size,13,none⟩=some (O J f.e)) (first|(refine HS4.out _ (fun k hk=>?_);iterate 13 rw[Below.heap_setCell _ _ _ _ (by dsimp only;exact hk)])|exact HS.out _ HB2.out|exact HS.out _ ⟨rfl,rfl,rfl,Nat.le_refl _,fun _ _=>rfl⟩) (first|(go_at_call 104;refine(HL.out _ (by exact⟨rfl,rfl,rfl,Nat.le_refl _,fun _ _=>rfl⟩)).mono ?_;rintro e w2 ⟨a2,c2,rfl,ho2,hb2⟩;have HO2:Hid (KOwn w2 W0.heap.size a2 c2 f.keys):=ho2;have HB2:Hid (Below W0.heap.size W0 w2):=⟨hb2.os,hb2.tape,hb2.output,hb2.size,hb2.block⟩;have HY2:Hid (w2.heap[w.heap.size+1]?=_):=(HB2.out.block _ (lt_of_block HY0.out)).trans HY0.out;obtain⟨y0,y1,y2,y3,y4,y5,y6,y7,y8,y9,y10,y11,y12,ys⟩:=pastf HY2.out;have hfz:=fun j=>unfrozen_of_block HY2.out j;have HS4:Hid (∀ w':World,(∀ k,k≠w.heap.size+1->w'.heap[k]?=w2.heap[k]?)->w'.cell? ⟨w.heap.size,0,none⟩=some (O J f.c.kind)/\w'.cell? ⟨w.heap.size,1,none⟩=some (O J f.c.a)/\w'.cell? ⟨w.heap.size,2,none⟩=some (O J f.c.b)/\w'.cell? ⟨w.heap.size,3,none⟩=some (O J f.c.time)/\w'.cell? ⟨w.heap.size,4,none⟩=some (O J f.c.bk)/\w'.cell? ⟨w.heap.size,5,none⟩=some (O J f.c.slot)/\w'.cell? ⟨w.heap.size,6,none⟩=some (O J f.pl)/\w'.cell? ⟨w.heap.size,7,none⟩=some (O J f.cur)/\w'.cell? ⟨w.heap.size,8,none⟩=some (O J f.prev)/\w'.cell? ⟨w.heap.size,9,none⟩=some (O J f.slot)/\w'.cell? ⟨w.heap.size,10,none⟩=some (O J f.n)/\w'.cell? ⟨w.heap.size,11,none⟩=some (Y aK f.keys.length cK)/\w'.cell? ⟨w.heap.size,12,none⟩=some (.bool f.done)/\w'.cell? ⟨w.heap.size,13,none⟩=some (O J f.e)):=HS3.out w2 HB2.out;clear ho2 hb2))
 all_goals
  have HB4:Hid ((w2.setCells (w.heap.size+1) 0 [O J task,O J f.c.kind,O J f.c.a,O J f.c.b,O J f.c.time,O J f.c.bk,O J f.c.slot,O J fro,O J too,O J f.e,O J f.slot,O J f.n,Y a2 f.keys.length c2]).heap[w.heap.size+1]?=some (.cells #[O J task,O J f.c.kind,O J f.c.a,O J f.c.b,O J f.c.time,O J f.c.bk,O J f.c.slot,O J fro,O J too,O J f.e,O J f.slot,O J f.n,Y a2 f.keys.length c2] 78 (0,0))):=Bg HY2.out rfl
  have HK4:Hid (KOwn (w2.setCells (w.heap.size+1) 0 [O J task,O J f.c.kind,O J f.c.a,O J f.c.b,O J f.c.time,O J f.c.bk,O J f.c.slot,O J fro,O J too,O J f.e,O J f.slot,O J f.n,Y a2 f.keys.length c2]) w.heap.size a2 c2 f.keys):=(HO2.out.same fun ad e=>Ad (by have:=(HO2.out.lt ad e).1;have:=Hz.out;omega) _ _ _).le (by have:=Hz.out;omega)
  have b4:Below w.heap.size w (w2.setCells (w.heap.size+1) 0 [O J task,O J f.c.kind,O J f.c.a,O J f.c.b,O J f.c.time,O J f.c.bk,O J f.c.slot,O J fro,O J too,O J f.e,O J f.slot,O J f.n,Y a2 f.keys.length c2]):=Ba (b0.trans (HB2.out.mono b0.size)) (by omega)
  simp only[World.setCells,Nat.zero_add,Nat.reduceAdd] at HB4 HK4 b4
  clear y0 y1 y2 y3 y4 y5 y6 y7 y8 y9 y10 y11 y12 ys hfz f0 f1 f2 f3 f4 f5 f6 f7 f8 f9 f10 f11 f12 f13 fs HS4 HS3 HS HL HY2 HO2 HB2
  go_wp2
  exact bodyPost_ret (results_cell_row Tryz.results81 _ _ (w.heap.size+1) 78 _ (0,0) _ rfl HB4.out Tryz.underlying78 rfl (by kernel_rfl)) rfl ⟨a2,c2,rfl,HK4.out,b4⟩
end
section
open Go.ChangeShapes Go.WideShapes Go.ChangeAt Go.RowKit Go.Joins Go.Deep Go.Maps
theorem P8{w w':World}{a:Option Addr}{c lo:Nat}{l:List Int}(r:IRow w a c l)(hi:∀ ad,a=some ad->lo<=ad.block)(h:∀ k,lo<=k->k<w.heap.size->w'.heap[k]?=w.heap[k]?):IRow w' a c l:=by
 refine⟨r.le,r.max,r.nil,?_⟩
 rcases r.at_ with h0|⟨b,o,e,hc⟩
 ·exact .inl h0
 ·refine .inr ⟨b,o,e,fun i hn=>?_⟩
  have hb:=h b (hi _ e) (cell_lt (hc i hn))
  rw[World.cell?_of_block (a:=⟨b,o+i,none⟩) hb]
  exact hc i hn
theorem srow_win{w w':World}{a:Option Addr}{c lo:Nat}{l:List Sl}(r:SRow w a c l)(hi:∀ ad,a=some ad->lo<=ad.block)(h:∀ k,lo<=k->k<w.heap.size->w'.heap[k]?=w.heap[k]?):SRow w' a c l:=by
 refine⟨r.le,r.max,r.nil,?_⟩
 rcases r.at_ with h0|⟨b,o,e,hc⟩
 ·exact .inl h0
 ·refine .inr ⟨b,o,e,fun i hn=>?_⟩
  have hb:=h b (hi _ e) (cell_lt (hc i hn).1)
  obtain⟨c0,c1,c2,c3,c4,c5⟩:=hc i hn
  exact⟨(World.cell?_of_block (a:=⟨b,o+i*6,none⟩) hb).trans c0,(World.cell?_of_block (a:=⟨b,o+i*6+1,none⟩) hb).trans c1,(World.cell?_of_block (a:=⟨b,o+i*6+2,none⟩) hb).trans c2,(World.cell?_of_block (a:=⟨b,o+i*6+3,none⟩) hb).trans c3,(World.cell?_of_block (a:=⟨b,o+i*6+4,none⟩) hb).trans c4,(World.cell?_of_block (a:=⟨b,o+i*6+5,none⟩) hb).trans c5⟩
theorem WAns.win{lo:Nat}{w w':World}{v:Value}{W:Wd}(h:WAns lo w v W)(hk:∀ k,lo<=k->k<w.heap.size->w'.heap[k]?=w.heap[k]?):WAns lo w' v W:=by
 obtain⟨aS,aH,aF,aL,cS,cH,cF,cL,aT,cT,l,e,A,hi,el,r,th⟩:=h
 refine⟨aS,aH,aF,aL,cS,cH,cF,cL,aT,cT,l,e,⟨srow_win A.s hi.s hk,P8 A.h hi.h hk,P8 A.f hi.f hk,P8 A.l hi.l hk⟩,hi,el,⟨r.le,r.max,r.nil,?_,fun p hp=>Dk (r.keys p hp) fun _ ad e hl=>hk _ (th.keys p hp ad e) hl,fun p hp=>P8 (r.held p hp) (th.held p hp) hk⟩,th⟩
 rcases r.at_ with h0|⟨b,o,e,hc⟩
 ·exact .inl h0
 ·refine .inr ⟨b,o,e,fun i hi q hq=>?_⟩
  obtain⟨v,hv⟩:=Oz l[i].1 l[i].2 hq
  exact(World.cell?_of_block (a:=⟨b,o+i*16+q,none⟩) (hk b (th.row _ e) (cell_lt ((hc i hi q hq).trans hv)))).trans (hc i hi q hq)
def Pst.enc(p:Pst)(a:Option Addr)(c:Nat):List Value :=
 [O J p.task,O J p.c.kind,O J p.c.a,O J p.c.b,O J p.c.time,O J p.c.bk,O J p.c.slot,O J p.fro,O J p.to,O J p.e,O J p.slot,O J p.n,Y a p.keys.length c]
def encP(l:List (Pst × Option Addr × Nat)):List Value:=l.flatMap fun q=>q.1.enc q.2.1 q.2.2
def Out(a b:Nat)(k:Nat):Prop:=¬ (a<=k/\k<b)
structure Cs(lo a b:Nat)(w:World)(B1 B2 B3 B4 g:Nat)(v1 v2 v4:Value)(said:List Int)(pl:List (Pst × Option Addr × Nat))(beg:List Nat)(Z:List (Nat × Array Value)):Prop where
 s:w.heap[B1]?=some (.cells #[v1] 68 (0,0))
 so:w.ownsRow lo 36 1 v1 said.length (encI said)
 sx:∀ k,v1.ownBlock=some k->Out a b k
 f:w.heap[B3]?=some (.cells #[Y (some ⟨g,0,none⟩) beg.length beg.length] 23 (0,0))
 fo:w.heap[g]?=some (.cells (encI (beg.map Int.ofNat)).toArray 3 (0,0))
 fx:Out a b g
 p:w.heap[B4]?=some (.cells #[v4] 69 (0,0))
 po:w.ownsRow lo 78 13 v4 pl.length (encP pl)
 px:∀ k,v4.ownBlock=some k->Out a b k
 pk:∀ q∈pl,KOwn w lo q.2.1 q.2.2 q.1.keys/\∀ ad,q.2.1=some ad->Out a b ad.block
 o1:lo<=B1/\Out a b B1
 o3:lo<=B3/\Out a b B3
 o4:lo<=B4/\Out a b B4
 og:lo<=g
 x:w.heap[B2]?=some (.cells #[v2] 54 (0,0))
 ox:lo<=B2/\Out a b B2
 z:∀ q∈Z,w.heap[q.1]?=some (.cells q.2 28 (0,0))
section
variable {lo a b:Nat} {w w':World} {B1 B2 B3 B4 g:Nat} {v1 v2 v4:Value} {said:List Int} {pl:List (Pst × Option Addr × Nat)} {beg:List Nat} {Z:List (Nat × Array Value)}
theorem Cs.below(h:Cs lo a b w B1 B2 B3 B4 g v1 v2 v4 said pl beg Z)(hb:Below w.heap.size w w'):Cs lo a b w' B1 B2 B3 B4 g v1 v2 v4 said pl beg Z :=
 ⟨(hb.block _ (lt_of_block h.s)).trans h.s,Cf h.so fun k hk=>hb.block _ (h.so.lt k hk).2,h.sx,(hb.block _ (lt_of_block h.f)).trans h.f,(hb.block _ (lt_of_block h.fo)).trans h.fo,h.fx,(hb.block _ (lt_of_block h.p)).trans h.p,Cf h.po fun k hk=>hb.block _ (h.po.lt k hk).2,h.px,fun q hq=>⟨(h.pk q hq).1.below hb,(h.pk q hq).2⟩,h.o1,h.o3,h.o4,h.og,(hb.block _ (lt_of_block h.x)).trans h.x,h.ox,fun q hq=>(hb.block _ (lt_of_block (h.z q hq))).trans (h.z q hq)⟩
theorem Cs.turn(h:Cs lo a b w B1 B2 B3 B4 g v1 v2 v4 said pl beg Z)(b':Nat):Cs lo w.heap.size b' w B1 B2 B3 B4 g v1 v2 v4 said pl beg Z :=
 have hz:∀ k,k<w.heap.size->Out w.heap.size b' k:=fun k hk hx=>by have:=hx.1;omega
 ⟨h.s,h.so,fun k hk=>hz k (h.so.lt k hk).2,h.f,h.fo,hz _ (lt_of_block h.fo),h.p,h.po,fun k hk=>hz k (h.po.lt k hk).2,fun q hq=>⟨(h.pk q hq).1,fun ad e=>hz _ ((h.pk q hq).1.lt ad e).2⟩,⟨h.o1.1,hz _ (lt_of_block h.s)⟩,⟨h.o3.1,hz _ (lt_of_block h.f)⟩,⟨h.o4.1,hz _ (lt_of_block h.p)⟩,h.og,h.x,⟨h.ox.1,hz _ (lt_of_block h.x)⟩,h.z⟩
theorem Cs.say(h:Cs lo a b w B1 B2 B3 B4 g v1 v2 v4 said pl beg Z)(hz:b<=w.heap.size){ob:Obj}{w1:World}{v':Value}{e:Int}(hg:(w.alloc ob).grownBy w1 v1.ownBlock)(ho:w1.ownsRow lo 36 1 v' (said.length+1) (encI said ++ [O J e]))(hl:v'.ownBlock=v1.ownBlock\/v'.ownBlock=some (w.alloc ob).heap.size) :
  Cs lo a b (w1.setCell ⟨B1,0,none⟩ v') B1 B2 B3 B4 g v' v2 v4 (said ++ [e]) pl beg Z/\∀ k,a<=k->k<b->(w1.setCell ⟨B1,0,none⟩ v').heap[k]?=w.heap[k]?:=by
 have hk1:∀ k,k<w.heap.size->v1.ownBlock≠some k->w1.heap[k]?=w.heap[k]?:=fun k hk hn=>by
  rw[hg.block k (by simp;omega) (fun e=>hn e.symm),Below.heap_alloc _ _ _ hk]
 have hk:∀ k,k<w.heap.size->v1.ownBlock≠some k->k≠B1->(w1.setCell ⟨B1,0,none⟩ v').heap[k]?=w.heap[k]?:=fun k hk hn hB=>by
  rw[Below.heap_setCell _ _ _ _ (by dsimp only;exact hB)]
  exact hk1 k hk hn
 have s1:w1.heap[B1]?=some (.cells #[v1] 68 (0,0)):=(hk1 B1 (lt_of_block h.s) (own_ne h.so h.s (by decide))).trans h.s
 have nb:∀ {X:Nat} {cs:Array Value} {t:TypeId},w.heap[X]?=some (.cells cs t (0,0))->t≠36->t≠68->(w1.setCell ⟨B1,0,none⟩ v').heap[X]?=some (.cells cs t (0,0)):=fun hX n1 n2=>by
  refine(hk _ (lt_of_block hX) (own_ne h.so hX (Ne.symm n1)) ?_).trans hX
  rintro rfl
  rw[h.s] at hX
  injection hX with hX
  injection hX with _ hX
  exact n2 hX.symm
 have nr:∀ {lo' size n:Nat} {t:TypeId} {u:Value} {xs:List Value},w.ownsRow lo' t size u n xs->t≠36->t≠68->(w1.setCell ⟨B1,0,none⟩ v').ownsRow lo' t size u n xs:=fun hu n1 n2=>by
  refine Cf hu fun k hu'=>hk k (hu.lt k hu').2 (fun hv=>H7 h.so hu (Ne.symm n1) k hv hu') ?_
  rintro rfl
  exact own_ne hu h.s n2 hu'
 refine⟨⟨?_,?_,?_,nb h.f (by decide) (by decide),nb h.fo (by decide) (by decide),h.fx,nb h.p (by decide) (by decide),nr h.po (by decide) (by decide),h.px,fun q hq=>⟨⟨nr (h.pk q hq).1.own (by decide) (by decide)⟩,(h.pk q hq).2⟩,h.o1,h.o3,h.o4,h.og,nb h.x (by decide) (by decide),h.ox,fun q hq=>nb (h.z q hq) (by decide) (by decide)⟩,?_⟩
 ·have:=block_setCell (i:=0) s1 v'
  rw[this];rfl
 ·have:=Kq (j:=0) (x:=v') ho (own_ne ho s1 (by decide))
  rwa [show encI said ++ [O J e]=encI (said ++ [e]) by simp[encI],show said.length+1=(said ++ [e]).length by simp] at this
 ·intro k hk'
  rcases hl with hl|hl
  ·exact h.sx k (hl ▸ hk')
  ·rw[hl] at hk'
   injection hk' with hk'
   intro hx
   have:=hx.2
   simp at hk'
   omega
 ·intro k h1 h2
  exact hk k (by omega) (fun e=>h.sx k e ⟨h1,h2⟩) (fun e=>h.o1.2 (e ▸ ⟨h1,h2⟩))
theorem Cs.start(h:Cs lo a b w B1 B2 B3 B4 g v1 v2 v4 said pl beg Z)(t n:Nat)(ht:t<beg.length) :
  Cs lo a b (w.setCell ⟨g,t,none⟩ (O J n)) B1 B2 B3 B4 g v1 v2 v4 said pl (beg.set t n) Z/\∀ k,a<=k->k<b->(w.setCell ⟨g,t,none⟩ (O J n)).heap[k]?=w.heap[k]?:=by
 have hk:∀ k,k≠g->(w.setCell ⟨g,t,none⟩ (O J n)).heap[k]?=w.heap[k]?:=fun k hB=>Below.heap_setCell _ _ _ _ (by dsimp only;exact hB)
 have nb:∀ {X:Nat} {cs:Array Value} {t':TypeId},w.heap[X]?=some (.cells cs t' (0,0))->t'≠3->(w.setCell ⟨g,t,none⟩ (O J n)).heap[X]?=some (.cells cs t' (0,0)):=fun hX n2=>by
  refine(hk _ ?_).trans hX
  rintro rfl
  rw[h.fo] at hX
  injection hX with hX
  injection hX with _ hX
  exact n2 hX.symm
 have nr:∀ {lo' size n':Nat} {t':TypeId} {u:Value} {xs:List Value},w.ownsRow lo' t' size u n' xs->t'≠3->(w.setCell ⟨g,t,none⟩ (O J n)).ownsRow lo' t' size u n' xs:=fun hu n2=>by
  refine Cf hu fun k hu'=>hk k ?_
  rintro rfl
  exact own_ne hu h.fo n2 hu'
 refine⟨⟨nb h.s (by decide),nr h.so (by decide),h.sx,?_,?_,h.fx,nb h.p (by decide),nr h.po (by decide),h.px,fun q hq=>⟨⟨nr (h.pk q hq).1.own (by decide)⟩,(h.pk q hq).2⟩,h.o1,h.o3,h.o4,h.og,nb h.x (by decide),h.ox,fun q hq=>nb (h.z q hq) (by decide)⟩,fun k h1 h2=>hk k (fun e=>h.fx (e ▸ ⟨h1,h2⟩))⟩
 ·rw[List.length_set];exact nb h.f (by decide)
 ·rw[block_setCell (i:=t) h.fo]
  congr 1
  congr 1
  apply Array.ext'
  simp[encI,List.map_set]
end
end
section
open Go.ChangeShapes Go.WideShapes Go.ChangeAt Go.RowKit Go.Joins Go.Deep Go.Maps
def WIn(a b:Nat)(w:World)(v:Value)(W:Wd):Prop:=∀ w',(∀ k,a<=k->k<b->w'.heap[k]?=w.heap[k]?)->WAns a w' v W
theorem WAns.wIn{a:Nat}{w:World}{v:Value}{W:Wd}(h:WAns a w v W):WIn a w.heap.size w v W:=fun w' hk=>h.win hk
theorem WIn.same{a b:Nat}{w w':World}{v:Value}{W:Wd}(h:WIn a b w v W)(hk:∀ k,a<=k->k<b->w'.heap[k]?=w.heap[k]?):WIn a b w' v W:=fun w2 h2=>h w2 fun k h3 h4=>(h2 k h3 h4).trans (hk k h3 h4)
def litB(x:Pk)(e:Int)(i:Nat)(beg:List Nat):List Nat:=if e≠0\/x.tick=true then beg else if x.step then beg else beg.set x.task.toNat i
def litP(x:Pk)(e:Int)(i:Nat)(beg:List Nat)(W:Wd)(past:List Pst):List Pst :=
 if e≠0\/x.tick=true then past else if x.step then (if (W.ts.getD x.task.toNat idle).busy then past else past ++ [overP i x (beg.getD x.task.toNat 0) (W.ts.getD x.task.toNat idle)]) else past
def LitP(lo a b:Nat)(w:World)(B1 B2 B3 B4 g:Nat)(v2:Value)(said:List Int)(past:List Pst)(beg:List Nat)(Z:List (Nat × Array Value))(e:Ending)(w':World):Prop :=
 ∃ v1 v4 pl,e=.returned (.tuple #[])/\Cs lo a b w' B1 B2 B3 B4 g v1 v2 v4 said pl beg Z/\pl.map (·.1)=past/\Below lo w w'/\∀ k,a<=k->k<b->w'.heap[k]?=w.heap[k]?
theorem iE:(Tryz.prog.info? 36).map (fun i=>(i.zero,i.size,i.bytes))=some (some (O J 0),1,8):=by kernel_rfl
theorem iP:(Tryz.prog.info? 78).map (fun i=>(i.zero,i.size,i.bytes))=some (some (.agg #[O J 0,O J 0,O J 0,O J 0,O J 0,O J 0,O J 0,O J 0,O J 0,O J 0,O J 0,O J 0,Y none 0 0]),13,120):=by kernel_rfl
theorem Cs.fat{lo a b:Nat}{w:World}{B1 B2 B3 B4 g:Nat}{v1 v2 v4:Value}{said:List Int}{pl:List (Pst × Option Addr × Nat)}{beg:List Nat}{Z:List (Nat × Array Value)}(h:Cs lo a b w B1 B2 B3 B4 g v1 v2 v4 said pl beg Z){t:Nat}(ht:t<beg.length):w.cell? ⟨g,t,none⟩=some (O J (beg.getD t 0:Nat)):=by
 rw[cell_of_block h.fo]
 simp[encI,ht]
set_option maxHeartbeats 4000000 in
theorem lit_err(lo a b:Nat)(w:World)(B1 B2 B3 B4 g:Nat)(aP:Option Addr)(cP:Nat)(l:List Pk)(v1 v4:Value)(said:List Int)(pl:List (Pst × Option Addr × Nat))(beg:List Nat)(Z:List (Nat × Array Value))(W:Wd)(v:Value)(i:Nat)(E:Int)
  (h:Cs lo a b w B1 B2 B3 B4 g v1 (Y aP l.length cP) v4 said pl beg Z) (hz:b<=w.heap.size) (hr:PRow w aP cP l) (hrl:∀ ad,aP=some ad->ad.block<lo) (hi:i<l.length) (hs:said.length<=300) (hps:pl.length<=300) (hW:WIn a b w v W) (hT:E≠0) :
  Calls Tryz.prog 80 #[O J i,v,O J E,.pointer (some ⟨B1,0,none⟩),.pointer (some ⟨B2,0,none⟩),.pointer (some ⟨B3,0,none⟩),.pointer (some ⟨B4,0,none⟩)] w (LitP lo a b w B1 B2 B3 B4 g (Y aP l.length cP) (said ++ [E]) (pl.map (·.1)) beg Z):=by
 obtain⟨aS,aH,aF,aL,cS,cH,cF,cL,aT,cT,lt,rfl,-⟩:=hW w (fun _ _ _=>rfl)
 have b0:Below w.heap.size w (w.alloc (.cells #[Y aS W.m.slots.length cS,Y aH W.m.heads.length cH,Y aF W.m.free.length cF,Y aL W.m.locks.length cL,O J W.m.now,Y aT W.ts.length cT] 28)):=Aa _ _
 have HC0:Hid (Cs lo a b (w.alloc (.cells #[Y aS W.m.slots.length cS,Y aH W.m.heads.length cH,Y aF W.m.free.length cF,Y aL W.m.locks.length cL,O J W.m.now,Y aT W.ts.length cT] 28)) B1 B2 B3 B4 g v1 (Y aP l.length cP) v4 said pl beg Z):=h.below b0
 have HY0:Hid ((w.alloc (.cells #[Y aS W.m.slots.length cS,Y aH W.m.heads.length cH,Y aF W.m.free.length cF,Y aL W.m.locks.length cL,O J W.m.now,Y aT W.ts.length cT] 28)).heap[w.heap.size]?=some (.cells #[Y aS W.m.slots.length cS,Y aH W.m.heads.length cH,Y aF W.m.free.length cF,Y aL W.m.locks.length cL,O J W.m.now,Y aT W.ts.length cT] 28 (0,0))):=heap_alloc_new _ _
 have Hlz:Hid (lo<=w.heap.size):=by have:=h.o1.1;have:=lt_of_block h.s;show _<=_;omega
 have HW0:Hid (WIn a b w (.agg #[Y aS W.m.slots.length cS,Y aH W.m.heads.length cH,Y aF W.m.free.length cF,Y aL W.m.locks.length cL,O J W.m.now,Y aT W.ts.length cT]) W):=hW
 have Hz:Hid (b<=w.heap.size):=hz
 rcases hr.at_ with hn|⟨bP,oP,rfl,hx⟩
 ·omega
 have hbl:bP<lo:=hrl _ rfl
 have Hrx:Hid (w.rangeAt bP (oP+i*9) [O J (l[i]).task,.bool (l[i]).step,.bool (l[i]).tick,O J ((l[i]).c).kind,O J ((l[i]).c).a,O J ((l[i]).c).b,O J ((l[i]).c).time,O J ((l[i]).c).bk,O J ((l[i]).c).slot]):=hx i hi
 have hmax:=hr.max
 have hle:=hr.le
 obtain⟨x,hxe⟩:∃ x,x=l[i]:=⟨_,rfl⟩
 have Hxe:Hid (x=l[i]):=hxe
 rw[<- hxe] at Hrx
 have HCell:Hid (∀ j u,[Value.int .i64 E][j]?=some u->(((w.alloc (.cells #[Y aS W.m.slots.length cS,Y aH W.m.heads.length cH,Y aF W.m.free.length cF,Y aL W.m.locks.length cL,O J W.m.now,Y aT W.ts.length cT] 28))).alloc (.cells #[O J E] 36)).cell? ((⟨w.heap.size+1,0,none⟩:Addr).add j)=some u):=fun j u hu=>by
  have h1:=cell_one_new (w.alloc (.cells #[Y aS W.m.slots.length cS,Y aH W.m.heads.length cH,Y aF W.m.free.length cF,Y aL W.m.locks.length cL,O J W.m.now,Y aT W.ts.length cT] 28)) (O J E) 36 j u hu
  rwa [show (w.alloc (.cells #[Y aS W.m.slots.length cS,Y aH W.m.heads.length cH,Y aF W.m.free.length cF,Y aL W.m.locks.length cL,O J W.m.now,Y aT W.ts.length cT] 28)).heap.size=w.heap.size+1 by simp] at h1
 obtain⟨i0,hi0,hq0,hq1,hq2⟩:=info_parts iE
 obtain⟨a1,k1,rfl⟩:=Cb HC0.out.so
 have HO:Hid ((w.alloc (.cells #[Y aS W.m.slots.length cS,Y aH W.m.heads.length cH,Y aF W.m.free.length cF,Y aL W.m.locks.length cL,O J W.m.now,Y aT W.ts.length cT] 28)).ownsRow lo 36 1 (Y a1 said.length k1) said.length (encI said)):=HC0.out.so
 have HBw:Hid (∀ (w2:World) (o:Obj) (v':Value),((w.alloc (.cells #[Y aS W.m.slots.length cS,Y aH W.m.heads.length cH,Y aF W.m.free.length cF,Y aL W.m.locks.length cL,O J W.m.now,Y aT W.ts.length cT] 28)).alloc o).grownBy w2 (Value.slice a1 said.length k1).ownBlock->Below lo w (w2.setCell ⟨B1,0,none⟩ v')):=fun w2 o v' hg=>Gn ((Below.mono (Aa w _) Hlz.out)) hg (fun k hk=>(HO.out.lt k hk).1) (by have:=Hlz.out;simp;omega) HC0.out.o1.1
 obtain⟨c1,f1,l1⟩:=Aj HC0.out.s
 clear h hW hr b0 hrl hx hz hxe
 go_enter Tryz.func80,Tryz.ntmps80
 go_wp2_with (first|(at_builtin;refine wpList_append_own_at _ rfl (.tmp 12) (.tmp 14) 68 rfl lo 36 i0 (O J 0) 1 8 Tryz.underlying68 hi0 hq0 hq1 hq2 rfl (by decide) _ _ _ rfl (HO.out.alloc _) ⟨w.heap.size+1,0,none⟩ 1 1 [O J E] rfl rfl HCell.out (by intro u hu;simp at hu;subst hu;rfl) (by unfold maxLen;omega) (by omega) (by have:=Hlz.out;simp;omega) ?_;intro v2 w2 ho2 hg2 _ hloc2;obtain⟨g2,cap2,rfl⟩:=ownsRow_form ho2 (by omega);have HC1:Hid _:=Cs.say HC0.out (by have:=Hz.out;simp;omega) hg2 ho2 hloc2;obtain⟨d1,e1,lB2⟩:=Aj (Dn HC0.out.s hg2 (own_ne HO.out HC0.out.s (by decide)));have HB1:Hid _:=HBw.out _ _ (Y (some ⟨g2,0,none⟩) (said.length+1) cap2) hg2;obtain⟨d2,e2,lB3⟩:=Aj HC1.out.1.x;have Hrx1:Hid _:=Dc Hrx.out HB1.out hbl;have HC2:=fun o:Obj=>HC1.out.1.below (Aa _ o);have d3:=fun o:Obj=>(Aj (HC2 o).f).1;have e3:=fun o:Obj=>(Aj (HC2 o).f).2.1;have d4:=fun o:Obj=>(Aj (HC2 o).p).1;have e4:=fun o:Obj=>(Aj (HC2 o).p).2.1; clear HC2 c1 f1 l1 ho2 hg2 hloc2 HC0 HO HBw)|refine wl_X rfl _ rfl rfl Hrx1.out ?_)
 refine bodyPost_ret (results_none rfl _ _ _) rfl ?_
 have hq:∀ o:Obj,Below lo w (World.alloc _ o):=fun o=>HB1.out.alloc (by have:=HB1.out.size;have:=Hlz.out;omega) o
 exact⟨_,v4,pl,rfl,HC1.out.1.below (Aa _ _),rfl,hq _,fun k h1 h2=>((Aa _ _).block k (by have:=HB1.out.size;have:=Hz.out;omega)).trans ((HC1.out.2 k h1 h2).trans ((Aa _ _).block k (by have:=Hz.out;omega)))⟩
set_option maxHeartbeats 4000000 in
theorem lit_tick(lo a b:Nat)(w:World)(B1 B2 B3 B4 g:Nat)(aP:Option Addr)(cP:Nat)(l:List Pk)(v1 v4:Value)(said:List Int)(pl:List (Pst × Option Addr × Nat))(beg:List Nat)(Z:List (Nat × Array Value))(W:Wd)(v:Value)(i:Nat)(E:Int)
  (h:Cs lo a b w B1 B2 B3 B4 g v1 (Y aP l.length cP) v4 said pl beg Z) (hz:b<=w.heap.size) (hr:PRow w aP cP l) (hrl:∀ ad,aP=some ad->ad.block<lo) (hi:i<l.length) (hs:said.length<=300) (hps:pl.length<=300) (hW:WIn a b w v W) (hE:E=0) (hT:(l[i]'hi).tick=true) :
  Calls Tryz.prog 80 #[O J i,v,O J E,.pointer (some ⟨B1,0,none⟩),.pointer (some ⟨B2,0,none⟩),.pointer (some ⟨B3,0,none⟩),.pointer (some ⟨B4,0,none⟩)] w (LitP lo a b w B1 B2 B3 B4 g (Y aP l.length cP) (said ++ [E]) (pl.map (·.1)) beg Z):=by
 obtain⟨aS,aH,aF,aL,cS,cH,cF,cL,aT,cT,lt,rfl,-⟩:=hW w (fun _ _ _=>rfl)
 subst hE
 have b0:Below w.heap.size w (w.alloc (.cells #[Y aS W.m.slots.length cS,Y aH W.m.heads.length cH,Y aF W.m.free.length cF,Y aL W.m.locks.length cL,O J W.m.now,Y aT W.ts.length cT] 28)):=Aa _ _
 have HC0:Hid (Cs lo a b (w.alloc (.cells #[Y aS W.m.slots.length cS,Y aH W.m.heads.length cH,Y aF W.m.free.length cF,Y aL W.m.locks.length cL,O J W.m.now,Y aT W.ts.length cT] 28)) B1 B2 B3 B4 g v1 (Y aP l.length cP) v4 said pl beg Z):=h.below b0
 have HY0:Hid ((w.alloc (.cells #[Y aS W.m.slots.length cS,Y aH W.m.heads.length cH,Y aF W.m.free.length cF,Y aL W.m.locks.length cL,O J W.m.now,Y aT W.ts.length cT] 28)).heap[w.heap.size]?=some (.cells #[Y aS W.m.slots.length cS,Y aH W.m.heads.length cH,Y aF W.m.free.length cF,Y aL W.m.locks.length cL,O J W.m.now,Y aT W.ts.length cT] 28 (0,0))):=heap_alloc_new _ _
 have Hlz:Hid (lo<=w.heap.size):=by have:=h.o1.1;have:=lt_of_block h.s;show _<=_;omega
 have HW0:Hid (WIn a b w (.agg #[Y aS W.m.slots.length cS,Y aH W.m.heads.length cH,Y aF W.m.free.length cF,Y aL W.m.locks.length cL,O J W.m.now,Y aT W.ts.length cT]) W):=hW
 have Hz:Hid (b<=w.heap.size):=hz
 rcases hr.at_ with hn|⟨bP,oP,rfl,hx⟩
 ·omega
 have hbl:bP<lo:=hrl _ rfl
 have Hrx:Hid (w.rangeAt bP (oP+i*9) [O J (l[i]).task,.bool (l[i]).step,.bool (l[i]).tick,O J ((l[i]).c).kind,O J ((l[i]).c).a,O J ((l[i]).c).b,O J ((l[i]).c).time,O J ((l[i]).c).bk,O J ((l[i]).c).slot]):=hx i hi
 have hmax:=hr.max
 have hle:=hr.le
 obtain⟨x,hxe⟩:∃ x,x=l[i]:=⟨_,rfl⟩
 have Hxe:Hid (x=l[i]):=hxe
 rw[<- hxe] at Hrx hT
 have HCell:Hid (∀ j u,[Value.int .i64 0][j]?=some u->(((w.alloc (.cells #[Y aS W.m.slots.length cS,Y aH W.m.heads.length cH,Y aF W.m.free.length cF,Y aL W.m.locks.length cL,O J W.m.now,Y aT W.ts.length cT] 28))).alloc (.cells #[O J 0] 36)).cell? ((⟨w.heap.size+1,0,none⟩:Addr).add j)=some u):=fun j u hu=>by
  have h1:=cell_one_new (w.alloc (.cells #[Y aS W.m.slots.length cS,Y aH W.m.heads.length cH,Y aF W.m.free.length cF,Y aL W.m.locks.length cL,O J W.m.now,Y aT W.ts.length cT] 28)) (O J 0) 36 j u hu
  rwa [show (w.alloc (.cells #[Y aS W.m.slots.length cS,Y aH W.m.heads.length cH,Y aF W.m.free.length cF,Y aL W.m.locks.length cL,O J W.m.now,Y aT W.ts.length cT] 28)).heap.size=w.heap.size+1 by simp] at h1
 obtain⟨i0,hi0,hq0,hq1,hq2⟩:=info_parts iE
 obtain⟨a1,k1,rfl⟩:=Cb HC0.out.so
 have HO:Hid ((w.alloc (.cells #[Y aS W.m.slots.length cS,Y aH W.m.heads.length cH,Y aF W.m.free.length cF,Y aL W.m.locks.length cL,O J W.m.now,Y aT W.ts.length cT] 28)).ownsRow lo 36 1 (Y a1 said.length k1) said.length (encI said)):=HC0.out.so
 have HBw:Hid (∀ (w2:World) (o:Obj) (v':Value),((w.alloc (.cells #[Y aS W.m.slots.length cS,Y aH W.m.heads.length cH,Y aF W.m.free.length cF,Y aL W.m.locks.length cL,O J W.m.now,Y aT W.ts.length cT] 28)).alloc o).grownBy w2 (Value.slice a1 said.length k1).ownBlock->Below lo w (w2.setCell ⟨B1,0,none⟩ v')):=fun w2 o v' hg=>Gn ((Below.mono (Aa w _) Hlz.out)) hg (fun k hk=>(HO.out.lt k hk).1) (by have:=Hlz.out;simp;omega) HC0.out.o1.1
 obtain⟨c1,f1,l1⟩:=Aj HC0.out.s
 clear h hW hr b0 hrl hx hz hxe
 go_enter Tryz.func80,Tryz.ntmps80
 go_wp2_with (first|(at_builtin;refine wpList_append_own_at _ rfl (.tmp 12) (.tmp 14) 68 rfl lo 36 i0 (O J 0) 1 8 Tryz.underlying68 hi0 hq0 hq1 hq2 rfl (by decide) _ _ _ rfl (HO.out.alloc _) ⟨w.heap.size+1,0,none⟩ 1 1 [O J 0] rfl rfl HCell.out (by intro u hu;simp at hu;subst hu;rfl) (by unfold maxLen;omega) (by omega) (by have:=Hlz.out;simp;omega) ?_;intro v2 w2 ho2 hg2 _ hloc2;obtain⟨g2,cap2,rfl⟩:=ownsRow_form ho2 (by omega);have HC1:Hid _:=Cs.say HC0.out (by have:=Hz.out;simp;omega) hg2 ho2 hloc2;obtain⟨d1,e1,lB2⟩:=Aj (Dn HC0.out.s hg2 (own_ne HO.out HC0.out.s (by decide)));have HB1:Hid _:=HBw.out _ _ (Y (some ⟨g2,0,none⟩) (said.length+1) cap2) hg2;obtain⟨d2,e2,lB3⟩:=Aj HC1.out.1.x;have Hrx1:Hid _:=Dc Hrx.out HB1.out hbl;have HC2:=fun o:Obj=>HC1.out.1.below (Aa _ o);have d3:=fun o:Obj=>(Aj (HC2 o).f).1;have e3:=fun o:Obj=>(Aj (HC2 o).f).2.1;have d4:=fun o:Obj=>(Aj (HC2 o).p).1;have e4:=fun o:Obj=>(Aj (HC2 o).p).2.1; clear HC2 c1 f1 l1 ho2 hg2 hloc2 HC0 HO HBw)|refine wl_X rfl _ rfl rfl Hrx1.out ?_)
 refine bodyPost_ret (results_none rfl _ _ _) rfl ?_
 have hq:∀ o:Obj,Below lo w (World.alloc _ o):=fun o=>HB1.out.alloc (by have:=HB1.out.size;have:=Hlz.out;omega) o
 exact⟨_,v4,pl,rfl,HC1.out.1.below (Aa _ _),rfl,hq _,fun k h1 h2=>((Aa _ _).block k (by have:=HB1.out.size;have:=Hz.out;omega)).trans ((HC1.out.2 k h1 h2).trans ((Aa _ _).block k (by have:=Hz.out;omega)))⟩
set_option maxHeartbeats 4000000 in
theorem a3b(lo a b:Nat)(w:World)(B1 B2 B3 B4 g:Nat)(aP:Option Addr)(cP:Nat)(l:List Pk)(v1 v4:Value)(said:List Int)(pl:List (Pst × Option Addr × Nat))(beg:List Nat)(Z:List (Nat × Array Value))(W:Wd)(v:Value)(i:Nat)(E:Int)
  (h:Cs lo a b w B1 B2 B3 B4 g v1 (Y aP l.length cP) v4 said pl beg Z) (hz:b<=w.heap.size) (hr:PRow w aP cP l) (hrl:∀ ad,aP=some ad->ad.block<lo) (hi:i<l.length) (hs:said.length<=300) (hps:pl.length<=300) (hW:WIn a b w v W) (hE:E=0) (hT:(l[i]'hi).tick=false) (hS:(l[i]'hi).step=false) (hk:0<=(l[i]'hi).task/\(l[i]'hi).task<beg.length) :
  Calls Tryz.prog 80 #[O J i,v,O J E,.pointer (some ⟨B1,0,none⟩),.pointer (some ⟨B2,0,none⟩),.pointer (some ⟨B3,0,none⟩),.pointer (some ⟨B4,0,none⟩)] w (LitP lo a b w B1 B2 B3 B4 g (Y aP l.length cP) (said ++ [E]) (pl.map (·.1)) (beg.set (l[i]'hi).task.toNat i) Z):=by
 obtain⟨aS,aH,aF,aL,cS,cH,cF,cL,aT,cT,lt,rfl,-⟩:=hW w (fun _ _ _=>rfl)
 subst hE
 have b0:Below w.heap.size w (w.alloc (.cells #[Y aS W.m.slots.length cS,Y aH W.m.heads.length cH,Y aF W.m.free.length cF,Y aL W.m.locks.length cL,O J W.m.now,Y aT W.ts.length cT] 28)):=Aa _ _
 have HC0:Hid (Cs lo a b (w.alloc (.cells #[Y aS W.m.slots.length cS,Y aH W.m.heads.length cH,Y aF W.m.free.length cF,Y aL W.m.locks.length cL,O J W.m.now,Y aT W.ts.length cT] 28)) B1 B2 B3 B4 g v1 (Y aP l.length cP) v4 said pl beg Z):=h.below b0
 have HY0:Hid ((w.alloc (.cells #[Y aS W.m.slots.length cS,Y aH W.m.heads.length cH,Y aF W.m.free.length cF,Y aL W.m.locks.length cL,O J W.m.now,Y aT W.ts.length cT] 28)).heap[w.heap.size]?=some (.cells #[Y aS W.m.slots.length cS,Y aH W.m.heads.length cH,Y aF W.m.free.length cF,Y aL W.m.locks.length cL,O J W.m.now,Y aT W.ts.length cT] 28 (0,0))):=heap_alloc_new _ _
 have Hlz:Hid (lo<=w.heap.size):=by have:=h.o1.1;have:=lt_of_block h.s;show _<=_;omega
 have HW0:Hid (WIn a b w (.agg #[Y aS W.m.slots.length cS,Y aH W.m.heads.length cH,Y aF W.m.free.length cF,Y aL W.m.locks.length cL,O J W.m.now,Y aT W.ts.length cT]) W):=hW
 have Hz:Hid (b<=w.heap.size):=hz
 rcases hr.at_ with hn|⟨bP,oP,rfl,hx⟩
 ·omega
 have hbl:bP<lo:=hrl _ rfl
 have Hrx:Hid (w.rangeAt bP (oP+i*9) [O J (l[i]).task,.bool (l[i]).step,.bool (l[i]).tick,O J ((l[i]).c).kind,O J ((l[i]).c).a,O J ((l[i]).c).b,O J ((l[i]).c).time,O J ((l[i]).c).bk,O J ((l[i]).c).slot]):=hx i hi
 have hmax:=hr.max
 have hle:=hr.le
 obtain⟨x,hxe⟩:∃ x,x=l[i]:=⟨_,rfl⟩
 have Hxe:Hid (x=l[i]):=hxe
 rw[<- hxe] at Hrx hT hS hk ⊢
 have HCell:Hid (∀ j u,[Value.int .i64 0][j]?=some u->(((w.alloc (.cells #[Y aS W.m.slots.length cS,Y aH W.m.heads.length cH,Y aF W.m.free.length cF,Y aL W.m.locks.length cL,O J W.m.now,Y aT W.ts.length cT] 28))).alloc (.cells #[O J 0] 36)).cell? ((⟨w.heap.size+1,0,none⟩:Addr).add j)=some u):=fun j u hu=>by
  have h1:=cell_one_new (w.alloc (.cells #[Y aS W.m.slots.length cS,Y aH W.m.heads.length cH,Y aF W.m.free.length cF,Y aL W.m.locks.length cL,O J W.m.now,Y aT W.ts.length cT] 28)) (O J 0) 36 j u hu
  rwa [show (w.alloc (.cells #[Y aS W.m.slots.length cS,Y aH W.m.heads.length cH,Y aF W.m.free.length cF,Y aL W.m.locks.length cL,O J W.m.now,Y aT W.ts.length cT] 28)).heap.size=w.heap.size+1 by simp] at h1
 obtain⟨i0,hi0,hq0,hq1,hq2⟩:=info_parts iE
 obtain⟨a1,k1,rfl⟩:=Cb HC0.out.so
 have HO:Hid ((w.alloc (.cells #[Y aS W.m.slots.length cS,Y aH W.m.heads.length cH,Y aF W.m.free.length cF,Y aL W.m.locks.length cL,O J W.m.now,Y aT W.ts.length cT] 28)).ownsRow lo 36 1 (Y a1 said.length k1) said.length (encI said)):=HC0.out.so
 have HBw:Hid (∀ (w2:World) (o:Obj) (v':Value),((w.alloc (.cells #[Y aS W.m.slots.length cS,Y aH W.m.heads.length cH,Y aF W.m.free.length cF,Y aL W.m.locks.length cL,O J W.m.now,Y aT W.ts.length cT] 28)).alloc o).grownBy w2 (Value.slice a1 said.length k1).ownBlock->Below lo w (w2.setCell ⟨B1,0,none⟩ v')):=fun w2 o v' hg=>Gn ((Below.mono (Aa w _) Hlz.out)) hg (fun k hk=>(HO.out.lt k hk).1) (by have:=Hlz.out;simp;omega) HC0.out.o1.1
 obtain⟨c1,f1,l1⟩:=Aj HC0.out.s
 clear h hW hr b0 hrl hx hz hxe
 go_enter Tryz.func80,Tryz.ntmps80
 go_wp2_with (first|(at_builtin;refine wpList_append_own_at _ rfl (.tmp 12) (.tmp 14) 68 rfl lo 36 i0 (O J 0) 1 8 Tryz.underlying68 hi0 hq0 hq1 hq2 rfl (by decide) _ _ _ rfl (HO.out.alloc _) ⟨w.heap.size+1,0,none⟩ 1 1 [O J 0] rfl rfl HCell.out (by intro u hu;simp at hu;subst hu;rfl) (by unfold maxLen;omega) (by omega) (by have:=Hlz.out;simp;omega) ?_;intro v2 w2 ho2 hg2 _ hloc2;obtain⟨g2,cap2,rfl⟩:=ownsRow_form ho2 (by omega);have HC1:Hid _:=Cs.say HC0.out (by have:=Hz.out;simp;omega) hg2 ho2 hloc2;obtain⟨d1,e1,lB2⟩:=Aj (Dn HC0.out.s hg2 (own_ne HO.out HC0.out.s (by decide)));have HB1:Hid _:=HBw.out _ _ (Y (some ⟨g2,0,none⟩) (said.length+1) cap2) hg2;obtain⟨d2,e2,lB3⟩:=Aj HC1.out.1.x;have Hrx1:Hid _:=Dc Hrx.out HB1.out hbl;have HC2:=fun o:Obj=>HC1.out.1.below (Aa _ o);have d3:=fun o:Obj=>(Aj (HC2 o).f).1;have e3:=fun o:Obj=>(Aj (HC2 o).f).2.1;have d4:=fun o:Obj=>(Aj (HC2 o).p).1;have e4:=fun o:Obj=>(Aj (HC2 o).p).2.1;have hk1:=hk.1;have hk2:=hk.2;have e5:=fun o:Obj=>unfrozen_of_block (HC2 o).fo x.task.toNat;have d5:=fun o:Obj=>Cs.fat (HC2 o) (t:=x.task.toNat) (by omega);clear HC2 c1 f1 l1 ho2 hg2 hloc2 HC0 HO HBw)|refine wl_X rfl _ rfl rfl Hrx1.out ?_)
 refine bodyPost_end (results_none rfl _ _ _) rfl ?_
 have hq:∀ o:Obj,Below lo w (World.alloc _ o):=fun o=>HB1.out.alloc (by have:=HB1.out.size;have:=Hlz.out;omega) o
 have hs2:=fun o:Obj=>Cs.start (HC1.out.1.below (Aa _ o)) x.task.toNat i (by omega)
 exact⟨_,v4,pl,rfl,(hs2 _).1,rfl,(hq _).setCell HC1.out.1.og _,fun k h1 h2=>((hs2 _).2 k h1 h2).trans (((Aa _ _).block k (by have:=HB1.out.size;have:=Hz.out;omega)).trans ((HC1.out.2 k h1 h2).trans ((Aa _ _).block k (by have:=Hz.out;omega))))⟩
end
section
open Go.ChangeShapes Go.WideShapes Go.ChangeAt Go.RowKit Go.Joins Go.Deep Go.Maps
theorem Z5{a:Nat}{w:World}{aS aH aF aL:Option Addr}{cS cH cF cL:Nat}{aT:Option Addr}{cT:Nat}{W:Wd}(h:WAns a w (.agg #[Y aS W.m.slots.length cS,Y aH W.m.heads.length cH,Y aF W.m.free.length cF,Y aL W.m.locks.length cL,O J W.m.now,Y aT W.ts.length cT]) W){t:Nat}(ht:t<W.ts.length) :
  ∃ lt:TkV,Hid (KRow w lt.aK lt.cK (W.ts.getD t idle).f.keys)/\W.ts.length<=cT/\∃ p q,aT=some ⟨p,q,none⟩/\Hid (w.rangeAt p (q+t*16) ((W.ts.getD t idle).enc lt)):=by
 obtain⟨bS,bH,bF,bL,dS,dH,dF,dL,bT,dT,lt,e,A,hi,hts,hT,hTh⟩:=h
 have e1:=Value.agg.inj e
 simp only[Array.mk.injEq,List.cons.injEq,Value.slice.injEq,true_and,and_true] at e1
 obtain⟨-,-,-,-,rfl,rfl⟩:=e1
 have hl:W.ts.length=lt.length:=by rw[hts,List.length_map]
 have hg:W.ts.getD t idle=lt[t].1:=by rw[List.getD_eq_getElem?_getD,hts];simp[show t<lt.length by omega]
 obtain⟨p,q,rfl⟩:=hT.addr (by omega)
 refine⟨lt[t].2,?_,by have:=hT.le;omega,p,q,rfl,?_⟩
 ·rw[hg];exact hT.keys _ (List.getElem_mem _)
 ·rw[hg];exact hT.range (by omega)
set_option maxHeartbeats 4000000 in
theorem lit_busy(lo a b:Nat)(w:World)(B1 B2 B3 B4 g:Nat)(aP:Option Addr)(cP:Nat)(l:List Pk)(v1 v4:Value)(said:List Int)(pl:List (Pst × Option Addr × Nat))(beg:List Nat)(Z:List (Nat × Array Value))(W:Wd)(v:Value)(i:Nat)(E:Int)
  (h:Cs lo a b w B1 B2 B3 B4 g v1 (Y aP l.length cP) v4 said pl beg Z) (hz:b<=w.heap.size) (hr:PRow w aP cP l) (hrl:∀ ad,aP=some ad->ad.block<lo) (hi:i<l.length) (hs:said.length<=300) (hps:pl.length<=300) (hW:WIn a b w v W) (hE:E=0) (hT:(l[i]'hi).tick=false) (hS:(l[i]'hi).step=true) (hk:0<=(l[i]'hi).task/\(l[i]'hi).task<W.ts.length) (hB:(W.ts.getD (l[i]'hi).task.toNat idle).busy=true) :
  Calls Tryz.prog 80 #[O J i,v,O J E,.pointer (some ⟨B1,0,none⟩),.pointer (some ⟨B2,0,none⟩),.pointer (some ⟨B3,0,none⟩),.pointer (some ⟨B4,0,none⟩)] w (LitP lo a b w B1 B2 B3 B4 g (Y aP l.length cP) (said ++ [E]) (pl.map (·.1)) beg Z):=by
 obtain⟨aS,aH,aF,aL,cS,cH,cF,cL,aT,cT,lt,rfl,-⟩:=hW w (fun _ _ _=>rfl)
 subst hE
 have hk0:(l[i]'hi).task.toNat<W.ts.length:=by omega
 obtain⟨-,-,hcT,pT,qT,rfl,-⟩:=Z5 (hW w fun _ _ _=>rfl) hk0
 clear hk0
 have b0:Below w.heap.size w (w.alloc (.cells #[Y aS W.m.slots.length cS,Y aH W.m.heads.length cH,Y aF W.m.free.length cF,Y aL W.m.locks.length cL,O J W.m.now,Y (some ⟨pT,qT,none⟩) W.ts.length cT] 28)):=Aa _ _
 have HC0:Hid (Cs lo a b (w.alloc (.cells #[Y aS W.m.slots.length cS,Y aH W.m.heads.length cH,Y aF W.m.free.length cF,Y aL W.m.locks.length cL,O J W.m.now,Y (some ⟨pT,qT,none⟩) W.ts.length cT] 28)) B1 B2 B3 B4 g v1 (Y aP l.length cP) v4 said pl beg Z):=h.below b0
 have HY0:Hid ((w.alloc (.cells #[Y aS W.m.slots.length cS,Y aH W.m.heads.length cH,Y aF W.m.free.length cF,Y aL W.m.locks.length cL,O J W.m.now,Y (some ⟨pT,qT,none⟩) W.ts.length cT] 28)).heap[w.heap.size]?=some (.cells #[Y aS W.m.slots.length cS,Y aH W.m.heads.length cH,Y aF W.m.free.length cF,Y aL W.m.locks.length cL,O J W.m.now,Y (some ⟨pT,qT,none⟩) W.ts.length cT] 28 (0,0))):=heap_alloc_new _ _
 have Hlz:Hid (lo<=w.heap.size):=by have:=h.o1.1;have:=lt_of_block h.s;show _<=_;omega
 have HW0:Hid (WIn a b w (.agg #[Y aS W.m.slots.length cS,Y aH W.m.heads.length cH,Y aF W.m.free.length cF,Y aL W.m.locks.length cL,O J W.m.now,Y (some ⟨pT,qT,none⟩) W.ts.length cT]) W):=hW
 have Hz:Hid (b<=w.heap.size):=hz
 rcases hr.at_ with hn|⟨bP,oP,rfl,hx⟩
 ·omega
 have hbl:bP<lo:=hrl _ rfl
 have Hrx:Hid (w.rangeAt bP (oP+i*9) [O J (l[i]).task,.bool (l[i]).step,.bool (l[i]).tick,O J ((l[i]).c).kind,O J ((l[i]).c).a,O J ((l[i]).c).b,O J ((l[i]).c).time,O J ((l[i]).c).bk,O J ((l[i]).c).slot]):=hx i hi
 have hmax:=hr.max
 have hle:=hr.le
 obtain⟨x,hxe⟩:∃ x,x=l[i]:=⟨_,rfl⟩
 have Hxe:Hid (x=l[i]):=hxe
 rw[<- hxe] at Hrx hT hS hk hB 
 obtain⟨xt,xs,xk,xc⟩:=x
 dsimp only at Hrx hT hS hk hB 
 subst hT hS
 obtain⟨tk,rfl⟩:∃ tk:Nat,xt=tk:=⟨xt.toNat,by omega⟩
 rw[Int.toNat_natCast] at hB 
 have hk2:tk<W.ts.length:=by omega
 have l1w:B1<w.heap.size:=lt_of_block h.s
 obtain⟨t,hte⟩:∃ t,t=W.ts.getD tk idle:=⟨_,rfl⟩
 have Hte:Hid (t=W.ts.getD tk idle):=hte
 rw[<- hte] at hB 
 clear hte
 have HCell:Hid (∀ j u,[Value.int .i64 0][j]?=some u->(((w.alloc (.cells #[Y aS W.m.slots.length cS,Y aH W.m.heads.length cH,Y aF W.m.free.length cF,Y aL W.m.locks.length cL,O J W.m.now,Y (some ⟨pT,qT,none⟩) W.ts.length cT] 28))).alloc (.cells #[O J 0] 36)).cell? ((⟨w.heap.size+1,0,none⟩:Addr).add j)=some u):=fun j u hu=>by
  have h1:=cell_one_new (w.alloc (.cells #[Y aS W.m.slots.length cS,Y aH W.m.heads.length cH,Y aF W.m.free.length cF,Y aL W.m.locks.length cL,O J W.m.now,Y (some ⟨pT,qT,none⟩) W.ts.length cT] 28)) (O J 0) 36 j u hu
  rwa [show (w.alloc (.cells #[Y aS W.m.slots.length cS,Y aH W.m.heads.length cH,Y aF W.m.free.length cF,Y aL W.m.locks.length cL,O J W.m.now,Y (some ⟨pT,qT,none⟩) W.ts.length cT] 28)).heap.size=w.heap.size+1 by simp] at h1
 obtain⟨i0,hi0,hq0,hq1,hq2⟩:=info_parts iE
 obtain⟨a1,k1,rfl⟩:=Cb HC0.out.so
 have HO:Hid ((w.alloc (.cells #[Y aS W.m.slots.length cS,Y aH W.m.heads.length cH,Y aF W.m.free.length cF,Y aL W.m.locks.length cL,O J W.m.now,Y (some ⟨pT,qT,none⟩) W.ts.length cT] 28)).ownsRow lo 36 1 (Y a1 said.length k1) said.length (encI said)):=HC0.out.so
 have HBw:Hid (∀ (w2:World) (o:Obj) (v':Value),((w.alloc (.cells #[Y aS W.m.slots.length cS,Y aH W.m.heads.length cH,Y aF W.m.free.length cF,Y aL W.m.locks.length cL,O J W.m.now,Y (some ⟨pT,qT,none⟩) W.ts.length cT] 28)).alloc o).grownBy w2 (Value.slice a1 said.length k1).ownBlock->Below lo w (w2.setCell ⟨B1,0,none⟩ v')):=fun w2 o v' hg=>Gn ((Below.mono (Aa w _) Hlz.out)) hg (fun k hk=>(HO.out.lt k hk).1) (by have:=Hlz.out;simp;omega) HC0.out.o1.1
 obtain⟨c1,f1,l1⟩:=Aj HC0.out.s
 clear h hW hr b0 hrl hx hz hxe
 go_enter Tryz.func80,Tryz.ntmps80
 go_wp2_with (first|(at_builtin;go_loud (refine wpList_append_own_at _ rfl (.tmp 12) (.tmp 14) 68 rfl lo 36 i0 (O J 0) 1 8 Tryz.underlying68 hi0 hq0 hq1 hq2 rfl (by decide) _ _ _ rfl (HO.out.alloc _) ⟨w.heap.size+1,0,none⟩ 1 1 [O J 0] rfl rfl HCell.out (by intro u hu;simp at hu;subst hu;rfl) (by unfold maxLen;omega) (by omega) (by have:=Hlz.out;simp;omega) ?_;intro v2 w2 ho2 hg2 _ hloc2;obtain⟨g2,cap2,rfl⟩:=ownsRow_form ho2 (by omega);have HC1:Hid _:=Cs.say HC0.out (by have:=Hz.out;simp;omega) hg2 ho2 hloc2;obtain⟨d1,e1,lB2⟩:=Aj (Dn HC0.out.s hg2 (own_ne HO.out HC0.out.s (by decide)));have HB1:Hid _:=HBw.out _ _ (Y (some ⟨g2,0,none⟩) (said.length+1) cap2) hg2;obtain⟨d2,e2,lB3⟩:=Aj HC1.out.1.x;have Hrx1:Hid _:=Dc Hrx.out HB1.out hbl;have HZ2:Hid _:=Dn HY0.out hg2 (own_ne HO.out HY0.out (by decide));have hz2:=lt_of_block HZ2.out;have HZ3:Hid ((World.heap (World.alloc (World.setCell w2 ⟨B1,0,none⟩ (Y (some ⟨g2,0,none⟩) (said.length+1) cap2)) (.cells #[O J tk,.bool true,.bool false,O J xc.kind,O J xc.a,O J xc.b,O J xc.time,O J xc.bk,O J xc.slot] 34)))[w.heap.size]?=some (.cells #[Y aS W.m.slots.length cS,Y aH W.m.heads.length cH,Y aF W.m.free.length cF,Y aL W.m.locks.length cL,O J W.m.now,Y (some ⟨pT,qT,none⟩) W.ts.length cT] 28 (0,0))):=((Aa _ _).block _ (by first|(simp;done)|(simp;omega)|(have:=HB1.out.size;omega))).trans ((Below.heap_setCell _ _ _ _ (by dsimp only;omega)).trans HZ2.out);obtain⟨z0,z1,z2,z3,z4,z5,zs⟩:=Df HZ3.out;have HWn:Hid _:=HW0.out (World.alloc (World.setCell w2 ⟨B1,0,none⟩ (Y (some ⟨g2,0,none⟩) (said.length+1) cap2)) (.cells #[O J tk,.bool true,.bool false,O J xc.kind,O J xc.a,O J xc.b,O J xc.time,O J xc.bk,O J xc.slot] 34)) (fun k h1 h2=>((Aa _ _).block k (by have:=HB1.out.size;have:=Hz.out;omega)).trans ((HC1.out.2 k h1 h2).trans ((Aa _ _).block k (by have:=Hz.out;omega))));obtain⟨lt2,hts2,ht2,p2,q2,hpT,Hrt⟩:=Z5 HWn.out hk2;cases hpT;rw[<- Hte.out] at Hrt hts2;clear c1 f1 l1 ho2 hg2 hloc2 HC0 HO HBw))|refine wl_X (x0:=⟨(tk:Int),true,false,xc⟩) rfl _ rfl rfl Hrx1.out ?_|refine wl_T rfl _ rfl rfl Hrt.out ?_)
 refine bodyPost_end (results_none rfl _ _ _) rfl ?_
 have hq:∀ o:Obj,Below lo w (World.alloc _ o):=fun o=>HB1.out.alloc (by have:=HB1.out.size;have:=Hlz.out;omega) o
 have hq2:∀ o o2:Obj,Below lo w (World.alloc (World.alloc _ o) o2):=fun o o2=>(hq o).alloc (by have:=(hq o).size;have:=Hlz.out;omega) o2
 exact⟨_,v4,pl,rfl,(HC1.out.1.below (Aa _ _)).below (Aa _ _),rfl,hq2 _ _,fun k h1 h2=>((Aa _ _).block k (by have:=(hq (.cells #[] 0)).size;have:=HB1.out.size;have:=Hz.out;simp;omega)).trans (((Aa _ _).block k (by have:=HB1.out.size;have:=Hz.out;omega)).trans ((HC1.out.2 k h1 h2).trans ((Aa _ _).block k (by have:=Hz.out;omega))))⟩
end
end Go.Proofs.YthhgoenomehobaaGreat.mm
