/- Parts. -/
import Derived.Test.YthhgoenomehobaaGreatE09
import Derived.Test.YthhgoenomehobaaGreatE02
import Derived.Test.YthhgoenomehobaaGreatE46
import Derived.Test.YthhgoenomehobaaGreatE05
import Derived.Test.YthhgoenomehobaaGreatE47
namespace Go.Proofs.YthhgoenomehobaaGreat.mm
set_option maxRecDepth 100000
set_option linter.unusedVariables false
open Go.Value renaming int → Vi, slice → Vs
open Go.IntKind renaming i64 → Qi
section
open Go Go.RowKit
def updR (x : Nat->Value) (d : Nat) (v : Value) : Nat->Value:=fun k => if k = d then v else x k
theorem a1k {P : Program} {ops : Array Oper} {Q : Exit->Act->World->Prop} {i : Nat} {o : Oper} {a : Act} {w w' : World} {v : Value} {K : Act->World->Prop} (hi : ops[i]? = some o) (hw : Region.wanted o (yielded ops a.tmps) = true)
    (hr : (execOp a.eval o).run P w = .ok (.value v) w') (h : K (a.put o.dst v) w') : wpOp P ops Q i K a w:=by
  refine wpOp_step hi fun K' hK => ?_
  rw [if_pos hw]
  unfold Oper.wp
  rw [hr]
  exact hK _ _ h
theorem b8v {P : Program} {ops : Array Oper} {Q : Exit->Act->World->Prop} {i : Nat} {o : Oper} {a : Act} {w : World} {f : Nat} {args : Array Value} {K : Act->World->Prop} (hi : ops[i]? = some o) (hw : Region.wanted o (yielded ops a.tmps) = true)
    (hr : (execOp a.eval o).run P w = .ok (.enter f args) w) (h : Calls P f args w fun e w' => ∃ v,e = .returned v/\K (a.put o.dst v) w') : wpOp P ops Q i K a w:=by
  refine wpOp_step hi fun K' hK => ?_
  rw [if_pos hw]
  unfold Oper.wp
  rw [hr]
  refine Calls.mono h ?_
  rintro e w' ⟨v,rfl,hv⟩
  exact hK _ _ hv
theorem a0u {o : Oper} {f : Nat->Option Bool} (h : o.guard = none) : Region.wanted o f = true:=by unfold Region.wanted; rw [h]
theorem a9x {md : Region.Mode} {ops : Array Oper} {listed : Array Bool} (hr : Region.ready md ops listed = []) (hs : listed.size = ops.size)
    (he : ((List.range ops.size).all fun i => ((ops[i]?).map fun o => o.after.all fun e => decide (e.on < i)).getD true) = true) : ∀ n i,i < n->i < ops.size->listed.getD i false = true
  | 0,i,h,_ => by omega
  | n + 1,i,h,hi => by
    cases hl : listed.getD i false with
    | true => rfl
    | false =>
      exfalso
      have hlt : listed.getD i true = false:=by
        simpa [Array.getD_eq_getD_getElem?,hs,hi] using hl
      have hm : i ∈ Region.ready md ops listed:=by
        unfold Region.ready
        rw [List.mem_filter]
        refine ⟨by simpa using hi,?_⟩
        rw [hlt]
        have h1:=List.all_eq_true.1 he i (by simpa using hi)
        have ho : ops[i]? = some ops[i]:=Array.getElem?_eq_getElem hi
        rw [ho] at h1 ⊢
        simp only [Option.map_some,Option.getD_some] at h1 ⊢
        simp only [Bool.not_false,Bool.true_and]
        rw [Array.all_eq_true'] at h1 ⊢
        intro e hm
        have h2:=h1 e hm
        have h3 : e.on < i:=by simpa using h2
        rw [a9x hr hs he n e.on (by omega) (by omega)]
        simp
      rw [hr] at hm
      cases hm
theorem a9w {md : Region.Mode} {ops : Array Oper} {listed : Array Bool} (hr : Region.ready md ops listed = []) (hs : listed.size = ops.size)
    (he : ((List.range ops.size).all fun i => ((ops[i]?).map fun o => o.after.all fun e => decide (e.on < i) || !Region.binds md e).getD true) = true) : ∀ n i,i < n->i < ops.size->listed.getD i false = true
  | 0,i,h,_ => by omega
  | n + 1,i,h,hi => by
    cases hl : listed.getD i false with
    | true => rfl
    | false =>
      exfalso
      have hlt : listed.getD i true = false:=by
        simpa [Array.getD_eq_getD_getElem?,hs,hi] using hl
      have hm : i ∈ Region.ready md ops listed:=by
        unfold Region.ready
        rw [List.mem_filter]
        refine ⟨by simpa using hi,?_⟩
        rw [hlt]
        have h1:=List.all_eq_true.1 he i (by simpa using hi)
        have ho : ops[i]? = some ops[i]:=Array.getElem?_eq_getElem hi
        rw [ho] at h1 ⊢
        simp only [Option.map_some,Option.getD_some] at h1 ⊢
        simp only [Bool.not_false,Bool.true_and]
        rw [Array.all_eq_true'] at h1 ⊢
        intro e hm
        have h2:=h1 e hm
        cases hb : Region.binds md e with
        | false => simp
        | true =>
          rw [hb] at h2
          have h3 : e.on < i:=by simpa using h2
          rw [a9w hr hs he n e.on (by omega) (by omega)]
          simp
      rw [hr] at hm
      cases hm
theorem b1g {P : Program} {ops : Array Oper} {Q : Exit->Act->World->Prop} {id : Nat} {a : Act} {w0 : World} (hm : P.follows .mixedOrders = true) (mk : (Nat->Value)->Act) (ha : a = mk fun k => a.tmps.getD k undef) (D : List Nat) (hN : D.Nodup) (hD : D.length = ops.size)
    (he : ((List.range ops.size).all fun i => ((ops[i]?).map fun o => o.after.all fun e => decide (e.on < i) || !Region.binds .any e).getD true) = true)
    (φ : Nat->Value->World->Prop) (mono : ∀ i v w w',φ i v w->Below w.heap.size w w'->φ i v w')
    (step : ∀ i,i < ops.size->∀ x W,Below w0.heap.size w0 W->(∀ d,d ∉ D->x d = a.tmps.getD d undef) ->
      (∀ k,(((ops[i]?).map fun o => o.after.any fun e => e.on == k && Region.binds .any e).getD false) = true->φ k (x (D.getD k 0)) W) ->
      wpOp P ops Q i (fun a' W' => ∃ v,a' = mk (updR x (D.getD i 0) v)/\φ i v W'/\Below W.heap.size W W') (mk x) W)
    (fin : ∀ x W,Below w0.heap.size w0 W->(∀ d,d ∉ D->x d = a.tmps.getD d undef)->(∀ i,i < ops.size->φ i (x (D.getD i 0)) W)->Q .normal (mk x) W) : (Code.region id ops true).wp P Q a w0:=by
  refine a8e hm (fun listed a' W => ∃ x,a' = mk x/\listed.size = ops.size/\Below w0.heap.size w0 W/\(∀ d,d ∉ D->x d = a.tmps.getD d undef)/\∀ i,i < ops.size->listed.getD i false = true->φ i (x (D.getD i 0)) W) ?_ ?_ ?_
  · refine ⟨_,ha,by simp,(Below.refl _ _).drew,fun d _ => rfl,fun i hi h => ?_⟩
    have : (Array.replicate ops.size false).getD i false = false:=by simp [Array.getD_eq_getD_getElem?,hi]
    rw [this] at h
    cases h
  · rintro listed a' W i hi ⟨x,rfl,hs,hb,hout,hφ⟩
    obtain ⟨h1,h2,o,ho,hpre⟩:=a5b hi
    refine wpOp_mono ?_ (step i h1 x W hb hout fun k hk => ?_)
    · rintro a'' W' ⟨v,rfl,hv,hb'⟩
      refine ⟨_,rfl,by simpa using hs,hb.trans (hb'.mono hb.size),fun d hd => ?_,fun j hj hl => ?_⟩
      · have : d ≠ D.getD i 0:=by
          rintro rfl
          refine hd ?_
          rw [List.getD_eq_getElem?_getD,List.getElem?_eq_getElem (by omega)]
          exact List.getElem_mem _
        simp only [updR,if_neg this]
        exact hout d hd
      · by_cases e : j = i
        · subst e
          simp only [updR,if_pos]
          exact hv
        · have hne : D.getD j 0 ≠ D.getD i 0:=by
            rw [List.getD_eq_getElem?_getD,List.getD_eq_getElem?_getD,List.getElem?_eq_getElem (by omega),List.getElem?_eq_getElem (by omega)]
            simp only [Option.getD_some]
            intro hh
            exact e ((List.getElem_inj hN).1 hh)
          simp only [updR,if_neg hne]
          have e' : ¬ i = j:=fun h => e h.symm
          have hl' : listed.getD j false = true:=by
            simpa [Array.getD_eq_getD_getElem?,e'] using hl
          exact mono _ _ _ _ (hφ j hj hl') hb'
    · rw [ho] at hk
      simp only [Option.map_some,Option.getD_some] at hk
      rw [Array.any_eq_true'] at hk
      obtain ⟨e,hem,hek⟩:=hk
      rw [Bool.and_eq_true] at hek
      have hon : e.on = k:=by simpa using hek.1
      have hl:=hpre e hem hek.2
      rw [hon] at hl
      refine hφ k ?_ hl
      refine Nat.lt_of_not_le fun hge => ?_
      have : listed.getD k false = false:=by simp [Array.getD_eq_getD_getElem?,hs,Nat.not_lt.2 hge]
      rw [this] at hl
      cases hl
  · rintro listed a' W hr ⟨x,rfl,hs,hb,hout,hφ⟩
    exact fin x W hb hout fun i hi => hφ i hi (a9w hr hs he (i + 1) i (by omega) hi)
theorem setL {listed : Array Bool} {i j : Nat} (h : i ≠ j) (b : Bool) : (listed.setIfInBounds i true).getD j b = listed.getD j b:=by
  simp [Array.getD_eq_getD_getElem?,h]
theorem setS {listed : Array Bool} {i : Nat} (h : i < listed.size) : (listed.setIfInBounds i true).getD i false = true:=by
  simp [Array.getD_eq_getD_getElem?,h]
theorem un_iff {listed : Array Bool} {i : Nat} (h : i < listed.size) : listed.getD i true = listed.getD i false:=by
  simp [Array.getD_eq_getD_getElem?,h]
theorem b1f {P : Program} {ops : Array Oper} {Q : Exit->Act->World->Prop} {id : Nat} {a : Act} {w0 : World} (hm : P.follows .mixedOrders = true) (mk : (Nat->Value)->Act) (ha : a = mk fun k => a.tmps.getD k undef) (D : List Nat) (hN : D.Nodup) (n : Nat) (hD : D.length = n) (hn : ops.size = n + 2)
    (hA : ((List.range ops.size).all fun i => ((ops[i]?).map fun o => o.after.all fun e => decide (e.on < i)).getD true) = true)
    (he : ((List.range n).all fun i => (List.range (n + 1)).any fun j => decide (i < j) && ((ops[j]?).map fun o => o.after.any fun e => e.on == i && Region.binds .any e).getD false) = true)
    (he2 : ((ops[n + 1]?).map fun o => o.after.any fun e => e.on == n && Region.binds .any e).getD false = true)
    (φ : Nat->Value->World->Prop) (mono : ∀ i v w w',φ i v w->Below w.heap.size w w'->φ i v w')
    (step : ∀ i,i < n->∀ x W,Below w0.heap.size w0 W->(∀ d,d ∉ D->x d = a.tmps.getD d undef) ->
      (∀ k,k < n->(((ops[i]?).map fun o => o.after.any fun e => e.on == k && Region.binds .any e).getD false) = true->φ k (x (D.getD k 0)) W) ->
      wpOp P ops Q i (fun a' W' => ∃ v,a' = mk (updR x (D.getD i 0) v)/\φ i v W'/\Below W.heap.size W W') (mk x) W)
    (fin : ∀ x W,Below w0.heap.size w0 W->(∀ d,d ∉ D->x d = a.tmps.getD d undef)->(∀ i,i < n->φ i (x (D.getD i 0)) W)->wpOp P ops Q n (fun a' W' => wpOp P ops Q (n + 1) (fun a'' W'' => Q .normal a'' W'') a' W') (mk x) W) : (Code.region id ops true).wp P Q a w0:=by
  -- whatever waits for what has not come up has not come up,and can't
  have wait : ∀ (listed : Array Bool),(∀ j o,ops[j]? = some o->listed.getD j false = true->∀ e ∈ o.after,Region.binds .any e = true->listed.getD e.on false = true)->∀ i j,j < n + 2->(((ops[j]?).map fun o => o.after.any fun e => e.on == i && Region.binds .any e).getD false) = true->listed.getD i false = false->listed.getD j false = false/\j ∉ Region.ready .any ops listed:=by
    intro listed hc i j hj h3 hl
    have ho : ops[j]? = some (ops[j]'(by omega)):=Array.getElem?_eq_getElem (by omega)
    rw [ho] at h3
    simp only [Option.map_some,Option.getD_some] at h3
    rw [Array.any_eq_true'] at h3
    obtain ⟨e,hem,hek⟩:=h3
    rw [Bool.and_eq_true] at hek
    have hon : e.on = i:=by simpa using hek.1
    refine ⟨?_,fun hr => ?_⟩
    · cases hlj : listed.getD j false with
      | false => rfl
      | true =>
        have:=hc j _ ho hlj e hem hek.2
        rw [hon,hl] at this
        cases this
    · obtain ⟨-,-,o,ho',hpre⟩:=a5b hr
      rw [ho] at ho'
      cases ho'
      have:=hpre e hem hek.2
      rw [hon,hl] at this
      cases this
  have wn : ∀ (listed : Array Bool),(∀ j o,ops[j]? = some o->listed.getD j false = true->∀ e ∈ o.after,Region.binds .any e = true->listed.getD e.on false = true)->∀ m i,n - i<=m->i < n->listed.getD i false = false->listed.getD n false = false/\n ∉ Region.ready .any ops listed:=by
    intro listed hc m
    induction m with
    | zero => intro i h1 h2; omega
    | succ m ih =>
      intro i h1 h2 hl
      have h3:=List.all_eq_true.1 he i (by simpa using h2)
      obtain ⟨j,hj,h4⟩:=List.any_eq_true.1 h3
      rw [Bool.and_eq_true] at h4
      have hij : i < j:=by simpa using h4.1
      have hjn : j < n + 1:=by simpa using hj
      have h5:=wait listed hc i j (by omega) h4.2 hl
      by_cases e : j = n
      · subst e; exact h5
      · exact ih j (by omega) (by omega) h5.1
  refine a8e hm (fun listed a' W => (listed.size = ops.size/\∀ j o,ops[j]? = some o->listed.getD j false = true->∀ e ∈ o.after,Region.binds .any e = true->listed.getD e.on false = true) /\
    ((listed.getD n false = false/\∃ x,a' = mk x/\Below w0.heap.size w0 W/\(∀ d,d ∉ D->x d = a.tmps.getD d undef)/\∀ i,i < n->listed.getD i false = true->φ i (x (D.getD i 0)) W) \/
     (listed.getD n false = true/\listed.getD (n + 1) false = false/\wpOp P ops Q (n + 1) (fun a'' W'' => Q .normal a'' W'') a' W) \/
     (listed.getD (n + 1) false = true/\Q .normal a' W))) ?_ ?_ ?_
  · have hz : ∀ i,(Array.replicate ops.size false).getD i false = false:=fun i => by
      by_cases hi : i < ops.size <;> simp [Array.getD_eq_getD_getElem?,hi]
    refine ⟨⟨by simp,fun j o _ hj => ?_⟩,.inl ⟨hz n,_,ha,(Below.refl _ _).drew,fun d _ => rfl,fun i hi h => ?_⟩⟩
    · rw [hz] at hj; cases hj
    · rw [hz] at h; cases h
  · rintro listed a' W i hi ⟨⟨hs,hc⟩,hJ⟩
    obtain ⟨h1,h2,o,ho,hpre⟩:=a5b hi
    rw [un_iff (by omega)] at h2
    have hc' : ∀ j o,ops[j]? = some o->(listed.setIfInBounds i true).getD j false = true->∀ e ∈ o.after,Region.binds .any e = true->(listed.setIfInBounds i true).getD e.on false = true:=by
      intro j o' hj hl e hem heb
      have h3 : listed.getD e.on false = true:=by
        by_cases ej : i = j
        · subst ej
          rw [ho] at hj
          cases hj
          exact hpre e hem heb
        · rw [setL ej] at hl
          exact hc j o' hj hl e hem heb
      by_cases ee : i = e.on
      · rw [<- ee]; exact setS (by omega)
      · rw [setL ee]; exact h3
    have hs' : (listed.setIfInBounds i true).size = ops.size:=by simpa using hs
    rcases hJ with ⟨hl,x,rfl,hb,hout,hφ⟩ | ⟨hl,hl1,hw⟩ | ⟨hl1,hw⟩
    · have hl1:=wait listed hc n (n + 1) (by omega) he2 hl
      by_cases hin : i < n
      · refine wpOp_mono ?_ (step i hin x W hb hout fun k hkn hk => ?_)
        · rintro a'' W' ⟨v,rfl,hv,hb'⟩
          refine ⟨⟨hs',hc'⟩,.inl ⟨by rw [setL (by omega)]; exact hl,_,rfl,hb.trans (hb'.mono hb.size),fun d hd => ?_,fun j hj hlj => ?_⟩⟩
          · have : d ≠ D.getD i 0:=by
              rintro rfl
              refine hd ?_
              rw [List.getD_eq_getElem?_getD,List.getElem?_eq_getElem (by omega)]
              exact List.getElem_mem _
            simp only [updR,if_neg this]
            exact hout d hd
          · by_cases e : j = i
            · subst e
              simp only [updR,if_pos]
              exact hv
            · have hne : D.getD j 0 ≠ D.getD i 0:=by
                rw [List.getD_eq_getElem?_getD,List.getD_eq_getElem?_getD,List.getElem?_eq_getElem (by omega),List.getElem?_eq_getElem (by omega)]
                simp only [Option.getD_some]
                intro hh
                exact e ((List.getElem_inj hN).1 hh)
              simp only [updR,if_neg hne]
              rw [setL (fun h => e h.symm)] at hlj
              exact mono _ _ _ _ (hφ j hj hlj) hb'
        · rw [ho] at hk
          simp only [Option.map_some,Option.getD_some] at hk
          rw [Array.any_eq_true'] at hk
          obtain ⟨e,hem,hek⟩:=hk
          rw [Bool.and_eq_true] at hek
          have hon : e.on = k:=by simpa using hek.1
          have hlk:=hpre e hem hek.2
          rw [hon] at hlk
          exact hφ k hkn hlk
      · by_cases hin2 : i = n
        · subst hin2
          have hall : ∀ k,k < i->listed.getD k false = true:=fun k hk => by
            cases hlk : listed.getD k false with
            | true => rfl
            | false => exact absurd hi (wn listed hc _ k (Nat.le_refl _) hk hlk).2
          refine wpOp_mono ?_ (fin x W hb hout fun k hk => hφ k hk (hall k hk))
          intro a'' W' hw
          exact ⟨⟨hs',hc'⟩,.inr (.inl ⟨setS (by omega),by rw [setL (by omega)]; exact hl1.1,hw⟩)⟩
        · have : i = n + 1:=by omega
          subst this
          exact absurd hi hl1.2
    · have : i = n + 1:=by
        by_cases hin : i < n
        · have:=(wn listed hc _ i (Nat.le_refl _) hin h2).1
          rw [hl] at this
          cases this
        · by_cases hin2 : i = n
          · subst hin2
            rw [hl] at h2
            cases h2
          · omega
      subst this
      refine wpOp_mono ?_ hw
      intro a'' W' hq
      exact ⟨⟨hs',hc'⟩,.inr (.inr ⟨setS (by omega),hq⟩)⟩
    · exfalso
      have hl : listed.getD n false = true:=by
        cases hl : listed.getD n false with
        | true => rfl
        | false =>
          have:=(wait listed hc n (n + 1) (by omega) he2 hl).1
          rw [hl1] at this
          cases this
      by_cases hin : i < n
      · have:=(wn listed hc _ i (Nat.le_refl _) hin h2).1
        rw [hl] at this
        cases this
      · by_cases hin2 : i = n
        · subst hin2
          rw [hl] at h2
          cases h2
        · have : i = n + 1:=by omega
          subst this
          rw [hl1] at h2
          cases h2
  · rintro listed a' W hr ⟨⟨hs,hc⟩,hJ⟩
    have all:=a9x hr hs hA
    rcases hJ with ⟨hl,-⟩ | ⟨-,hl,-⟩ | ⟨-,hw⟩
    · rw [all (n + 1) n (by omega) (by omega)] at hl; cases hl
    · rw [all (n + 2) (n + 1) (by omega) (by omega)] at hl; cases hl
    · exact hw
end
section
open Go.ChangeShapes Go.WideShapes Go.ChangeAt Go.RowKit Go.Joins Go.Deep Go.Maps
section
variable {lo a b : Nat} {w w' : World} {B1 B2 B3 B4 g : Nat} {v1 v2 v4 : Value} {said : List Int} {pl : List (Pst × Option Addr × Nat)} {beg : List Nat} {Z : List (Nat × Array Value)}
theorem Cs.tellW (h : Cs lo a b w B1 B2 B3 B4 g v1 v2 v4 said pl beg Z) (hz : b<=w.heap.size) {w1 : World} {v' : Value} {q : Pst × Option Addr × Nat} (hq : KOwn w lo q.2.1 q.2.2 q.1.keys) (hqx : ∀ ad,q.2.1 = some ad->Out a b ad.block) (hg : w.grownBy w1 v4.ownBlock) (ho : w1.ownsRow lo 78 13 v' (pl.length + 1) (encP pl ++ q.1.enc q.2.1 q.2.2)) (hl : v'.ownBlock = v4.ownBlock\/v'.ownBlock = some w.heap.size) :
    Cs lo a b (w1.setCell ⟨B4,0,none⟩ v') B1 B2 B3 B4 g v1 v2 v' said (pl ++ [q]) beg Z/\∀ k,a<=k->k < b->(w1.setCell ⟨B4,0,none⟩ v').heap[k]? = w.heap[k]?:=by
  have hk1 : ∀ k,k < w.heap.size->v4.ownBlock ≠ some k->w1.heap[k]? = w.heap[k]?:=fun k hk hn => by
    exact hg.block k hk (fun e => hn e.symm)
  have hk : ∀ k,k < w.heap.size->v4.ownBlock ≠ some k->k ≠ B4->(w1.setCell ⟨B4,0,none⟩ v').heap[k]? = w.heap[k]?:=fun k hk hn hB => by
    rw [Below.heap_setCell _ _ _ _ (by dsimp only; exact hB)]
    exact hk1 k hk hn
  have s1 : w1.heap[B4]? = some (.cells #[v4] 69 (0,0)):=(hk1 B4 (lt_of_block h.p) (own_ne h.po h.p (by decide))).trans h.p
  have nb : ∀ {X : Nat} {cs : Array Value} {t : TypeId},w.heap[X]? = some (.cells cs t (0,0))->t ≠ 78->t ≠ 69->(w1.setCell ⟨B4,0,none⟩ v').heap[X]? = some (.cells cs t (0,0)):=fun hX n1 n2 => by
    refine (hk _ (lt_of_block hX) (own_ne h.po hX (Ne.symm n1)) ?_).trans hX
    rintro rfl
    rw [h.p] at hX
    injection hX with hX
    injection hX with _ hX
    exact n2 hX.symm
  have nr : ∀ {lo' size n : Nat} {t : TypeId} {u : Value} {xs : List Value},w.ownsRow lo' t size u n xs->t ≠ 78->t ≠ 69->(w1.setCell ⟨B4,0,none⟩ v').ownsRow lo' t size u n xs:=fun hu n1 n2 => by
    refine a1u hu fun k hu' => hk k (hu.lt k hu').2 (fun hv => a4i h.po hu (Ne.symm n1) k hv hu') ?_
    rintro rfl
    exact own_ne hu h.p n2 hu'
  refine ⟨⟨nb h.s (by decide) (by decide),nr h.so (by decide) (by decide),h.sx,nb h.f (by decide) (by decide),nb h.fo (by decide) (by decide),h.fx,?_,?_,?_,?_,h.o1,h.o3,h.o4,h.og,nb h.x (by decide) (by decide),h.ox,fun q hq => nb (h.z q hq) (by decide) (by decide)⟩,?_⟩
  · have:=block_setCell (i:=0) s1 v'
    rw [this]; rfl
  · have:=a6q (j:=0) (x:=v') ho (own_ne ho s1 (by decide))
    rwa [show encP pl ++ q.1.enc q.2.1 q.2.2 = encP (pl ++ [q]) by simp [encP],show pl.length + 1 = (pl ++ [q]).length by simp] at this
  · intro k hk'
    rcases hl with hl | hl
    · exact h.px k (hl ▸ hk')
    · rw [hl] at hk'
      injection hk' with hk'
      intro hx
      have:=hx.2
      omega
  · intro q' hq'
    rcases List.mem_append.1 hq' with hq' | hq'
    · exact ⟨⟨nr (h.pk q' hq').1.own (by decide) (by decide)⟩,(h.pk q' hq').2⟩
    · rw [List.mem_singleton] at hq'
      subst hq'
      exact ⟨⟨nr hq.own (by decide) (by decide)⟩,hqx⟩
  · intro k h1 h2
    exact hk k (by omega) (fun e => h.px k e ⟨h1,h2⟩) (fun e => h.o4.2 (e ▸ ⟨h1,h2⟩))
end
theorem a8d {P : Program} {ops : Array Oper} {Q : Exit->Act->World->Prop} {i : Nat} {o : Oper} {a : Act} {w w' : World} {K : Act->World->Prop} (hi : ops[i]? = some o) (hw : Region.wanted o (yielded ops a.tmps) = true)
    (hr : (execOp a.eval o).run P w = .ok .skip w') (h : K (a.put o.dst undef) w') : wpOp P ops Q i K a w:=by
  refine wpOp_step hi fun K' hK => ?_
  rw [if_pos hw]
  unfold Oper.wp
  rw [hr]
  exact hK _ _ h
def actL (x : Nat->Value) : Act:=⟨#[x 0,x 1,x 2,x 3,x 4,x 5,x 6,x 7,x 8,x 9,x 10,x 11,x 12,x 13,x 14,x 15,x 16,x 17,x 18,x 19,x 20,x 21,x 22,x 23,x 24,x 25,x 26,x 27,x 28,x 29,x 30,x 31,x 32,x 33,x 34,x 35,x 36,x 37,x 38,x 39,x 40,x 41,x 42,x 43,x 44,x 45,x 46,x 47,x 48,x 49,x 50,x 51,x 52,x 53,x 54,x 55,x 56],[]⟩
def valL (X B g tk i : Nat) (v4 gs : Value) (f : Fr) (aK : Option Addr) (cK : Nat) : Nat->Value
  | 0 => v4
  | 1 => .pointer (some ⟨X + 1,1,none⟩)
  | 2 => .agg #[Vi Qi f.c.kind,Vi Qi f.c.a,Vi Qi f.c.b,Vi Qi f.c.time,Vi Qi f.c.bk,Vi Qi f.c.slot,Vi Qi f.pl,Vi Qi f.cur,Vi Qi f.prev,Vi Qi f.slot,Vi Qi f.n,Vs aK f.keys.length cK,.bool f.done,Vi Qi f.e]
  | 3 => .pointer (some ⟨X,0,none⟩)
  | 4 => Vi Qi tk
  | 5 => gs
  | 6 => .pointer (some ⟨X,0,none⟩)
  | 7 => Vi Qi tk
  | 8 => .pointer (some ⟨g,tk,none⟩)
  | 9 => Vi Qi B
  | _ => Vi Qi i
def phiL (X B g tk i : Nat) (v4 gs : Value) (f : Fr) (aK : Option Addr) (cK base : Nat) (n : Nat) (v : Value) (W : World) : Prop :=
  (n ≠ 11->n ≠ 12->v = valL X B g tk i v4 gs f aK cK n) /\
  (n = 11->∃ a2 c2,v = .agg #[Vi Qi tk,Vi Qi f.c.kind,Vi Qi f.c.a,Vi Qi f.c.b,Vi Qi f.c.time,Vi Qi f.c.bk,Vi Qi f.c.slot,Vi Qi B,Vi Qi i,Vi Qi f.e,Vi Qi f.slot,Vi Qi f.n,Vs a2 f.keys.length c2]/\KOwn W base a2 c2 f.keys) /\
  (n = 12->∃ a2 c2 p,v = Vs (some ⟨p,0,none⟩) 1 1/\W.heap[p]? = some (.cells #[Vi Qi tk,Vi Qi f.c.kind,Vi Qi f.c.a,Vi Qi f.c.b,Vi Qi f.c.time,Vi Qi f.c.bk,Vi Qi f.c.slot,Vi Qi B,Vi Qi i,Vi Qi f.e,Vi Qi f.slot,Vi Qi f.n,Vs a2 f.keys.length c2] 78 (0,0))/\KOwn W base a2 c2 f.keys)
theorem c1o {X B g tk i : Nat} {v4 gs : Value} {f : Fr} {aK : Option Addr} {cK base : Nat} : ∀ n v w w',phiL X B g tk i v4 gs f aK cK base n v w->Below w.heap.size w w'->phiL X B g tk i v4 gs f aK cK base n v w':=by
  rintro n v w w' ⟨h1,h2,h3⟩ hb
  refine ⟨h1,fun h => ?_,fun h => ?_⟩
  · obtain ⟨a,k,e,r⟩:=h2 h
    exact ⟨a,k,e,r.below hb⟩
  · obtain ⟨a,k,p,e,r,s⟩:=h3 h
    exact ⟨a,k,p,e,(hb.block _ (lt_of_block r)).trans r,s.below hb⟩
theorem a3g {X B g tk i : Nat} {v4 gs : Value} {f : Fr} {aK : Option Addr} {cK base n : Nat} {W : World} (h1 : n ≠ 11) (h2 : n ≠ 12) : phiL X B g tk i v4 gs f aK cK base n (valL X B g tk i v4 gs f aK cK n) W:=⟨fun _ _ => rfl,fun h => (h1 h).elim,fun h => (h2 h).elim⟩
theorem a8i {w : World} {p : Nat} {vs : List Value} {t : TypeId} (h : w.heap[p]? = some (.cells vs.toArray t (0,0))) : ∀ j u,vs[j]? = some u->w.cell? ((⟨p,0,none⟩ : Addr).add j) = some u:=by
  intro j u hj
  rw [show ((⟨p,0,none⟩ : Addr).add j) = ⟨p,j,none⟩ by simp [Addr.add]; omega,cell_of_block h]
  simpa using hj
set_option maxHeartbeats 4000000 in
theorem lit_over (lo a b : Nat) (w : World) (B1 B2 B3 B4 g : Nat) (aP : Option Addr) (cP : Nat) (l : List Pk) (v1 v4 : Value) (said : List Int) (pl : List (Pst × Option Addr × Nat)) (beg : List Nat) (Z : List (Nat × Array Value)) (W : Wd) (v : Value) (i : Nat) (E : Int)
    (h : Cs lo a b w B1 B2 B3 B4 g v1 (Vs aP l.length cP) v4 said pl beg Z) (hz : b<=w.heap.size) (hr : PRow w aP cP l) (hrl : ∀ ad,aP = some ad->ad.block < lo) (hi : i < l.length) (hs : said.length<=300) (hps : pl.length<=300) (hW : WIn a b w v W) (hE : E = 0) (hT : (l[i]'hi).tick = false) (hS : (l[i]'hi).step = true) (hk : 0<=(l[i]'hi).task/\(l[i]'hi).task < W.ts.length) (hB : (W.ts.getD (l[i]'hi).task.toNat idle).busy = false) (hbl : beg.length = W.ts.length) :
    Calls Tryz.prog 80 #[Vi Qi i,v,Vi Qi E,.pointer (some ⟨B1,0,none⟩),.pointer (some ⟨B2,0,none⟩),.pointer (some ⟨B3,0,none⟩),.pointer (some ⟨B4,0,none⟩)] w (LitP lo a b w B1 B2 B3 B4 g (Vs aP l.length cP) (said ++ [E]) ((pl.map (·.1)) ++ [overP i (l[i]'hi) (beg.getD (l[i]'hi).task.toNat 0) (W.ts.getD (l[i]'hi).task.toNat idle)]) beg Z):=by
  obtain ⟨aS,aH,aF,aL,cS,cH,cF,cL,aT,cT,lt,rfl,-⟩:=hW w (fun _ _ _ => rfl)
  subst hE
  have hk0 : (l[i]'hi).task.toNat < W.ts.length:=by omega
  obtain ⟨-,-,hcT,pT,qT,rfl,-⟩:=b6x (hW w fun _ _ _ => rfl) hk0
  clear hk0
  have b0 : Below w.heap.size w (w.alloc (.cells #[Vs aS W.m.slots.length cS,Vs aH W.m.heads.length cH,Vs aF W.m.free.length cF,Vs aL W.m.a0b.length cL,Vi Qi W.m.now,Vs (some ⟨pT,qT,none⟩) W.ts.length cT] 28)):=a0c _ _
  have HC0 : Hid (Cs lo a b (w.alloc (.cells #[Vs aS W.m.slots.length cS,Vs aH W.m.heads.length cH,Vs aF W.m.free.length cF,Vs aL W.m.a0b.length cL,Vi Qi W.m.now,Vs (some ⟨pT,qT,none⟩) W.ts.length cT] 28)) B1 B2 B3 B4 g v1 (Vs aP l.length cP) v4 said pl beg Z):=h.below b0
  have HY0 : Hid ((w.alloc (.cells #[Vs aS W.m.slots.length cS,Vs aH W.m.heads.length cH,Vs aF W.m.free.length cF,Vs aL W.m.a0b.length cL,Vi Qi W.m.now,Vs (some ⟨pT,qT,none⟩) W.ts.length cT] 28)).heap[w.heap.size]? = some (.cells #[Vs aS W.m.slots.length cS,Vs aH W.m.heads.length cH,Vs aF W.m.free.length cF,Vs aL W.m.a0b.length cL,Vi Qi W.m.now,Vs (some ⟨pT,qT,none⟩) W.ts.length cT] 28 (0,0))):=heap_alloc_new _ _
  have Hlz : Hid (lo<=w.heap.size):=by have:=h.o1.1; have:=lt_of_block h.s; show _<=_; omega
  have HW0 : Hid (WIn a b w (.agg #[Vs aS W.m.slots.length cS,Vs aH W.m.heads.length cH,Vs aF W.m.free.length cF,Vs aL W.m.a0b.length cL,Vi Qi W.m.now,Vs (some ⟨pT,qT,none⟩) W.ts.length cT]) W):=hW
  have Hz : Hid (b<=w.heap.size):=hz
  rcases hr.at_ with hn | ⟨bP,oP,rfl,hx⟩
  · omega
  have hbl : bP < lo:=hrl _ rfl
  have Hrx : Hid (w.rangeAt bP (oP + i * 9) [Vi Qi (l[i]).task,.bool (l[i]).step,.bool (l[i]).tick,Vi Qi ((l[i]).c).kind,Vi Qi ((l[i]).c).a,Vi Qi ((l[i]).c).b,Vi Qi ((l[i]).c).time,Vi Qi ((l[i]).c).bk,Vi Qi ((l[i]).c).slot]):=hx i hi
  have hmax:=hr.max
  have hle:=hr.le
  obtain ⟨x,hxe⟩ : ∃ x,x = l[i]:=⟨_,rfl⟩
  have Hxe : Hid (x = l[i]):=hxe
  rw [<- hxe] at Hrx hT hS hk hB ⊢
  obtain ⟨xt,xs,xk,xc⟩:=x
  dsimp only at Hrx hT hS hk hB ⊢
  subst hT hS
  obtain ⟨tk,rfl⟩ : ∃ tk : Nat,xt = tk:=⟨xt.toNat,by omega⟩
  rw [Int.toNat_natCast] at hB ⊢
  have hk2 : tk < W.ts.length:=by omega
  have l1w : B1 < w.heap.size:=lt_of_block h.s
  obtain ⟨t,hte⟩ : ∃ t,t = W.ts.getD tk idle:=⟨_,rfl⟩
  have Hte : Hid (t = W.ts.getD tk idle):=hte
  rw [<- hte] at hB ⊢
  clear hte
  have HCell : Hid (∀ j u,[Value.int .i64 0][j]? = some u->(((w.alloc (.cells #[Vs aS W.m.slots.length cS,Vs aH W.m.heads.length cH,Vs aF W.m.free.length cF,Vs aL W.m.a0b.length cL,Vi Qi W.m.now,Vs (some ⟨pT,qT,none⟩) W.ts.length cT] 28))).alloc (.cells #[Vi Qi 0] 36)).cell? ((⟨w.heap.size + 1,0,none⟩ : Addr).add j) = some u):=fun j u hu => by
    have h1:=cell_one_new (w.alloc (.cells #[Vs aS W.m.slots.length cS,Vs aH W.m.heads.length cH,Vs aF W.m.free.length cF,Vs aL W.m.a0b.length cL,Vi Qi W.m.now,Vs (some ⟨pT,qT,none⟩) W.ts.length cT] 28)) (Vi Qi 0) 36 j u hu
    rwa [show (w.alloc (.cells #[Vs aS W.m.slots.length cS,Vs aH W.m.heads.length cH,Vs aF W.m.free.length cF,Vs aL W.m.a0b.length cL,Vi Qi W.m.now,Vs (some ⟨pT,qT,none⟩) W.ts.length cT] 28)).heap.size = w.heap.size + 1 by simp] at h1
  obtain ⟨i0,hi0,hq0,hq1,hq2⟩:=info_parts iE
  obtain ⟨a1,k1,rfl⟩:=a2c HC0.out.so
  have HO : Hid ((w.alloc (.cells #[Vs aS W.m.slots.length cS,Vs aH W.m.heads.length cH,Vs aF W.m.free.length cF,Vs aL W.m.a0b.length cL,Vi Qi W.m.now,Vs (some ⟨pT,qT,none⟩) W.ts.length cT] 28)).ownsRow lo 36 1 (Vs a1 said.length k1) said.length (encI said)):=HC0.out.so
  have HBw : Hid (∀ (w2 : World) (o : Obj) (v' : Value),((w.alloc (.cells #[Vs aS W.m.slots.length cS,Vs aH W.m.heads.length cH,Vs aF W.m.free.length cF,Vs aL W.m.a0b.length cL,Vi Qi W.m.now,Vs (some ⟨pT,qT,none⟩) W.ts.length cT] 28)).alloc o).grownBy w2 (Value.slice a1 said.length k1).ownBlock->Below lo w (w2.setCell ⟨B1,0,none⟩ v')):=fun w2 o v' hg => a3y ((Below.mono (a0c w _) Hlz.out)) hg (fun k hk => (HO.out.lt k hk).1) (by have:=Hlz.out; simp; omega) HC0.out.o1.1
  obtain ⟨c1,f1,l1⟩:=a0j HC0.out.s
  clear h hW hr b0 hrl hx hz hxe
  go_enter Tryz.func80,Tryz.ntmps80
  go_wp2_with (first | (at_builtin; go_loud (refine wpList_append_own_at _ rfl (.tmp 12) (.tmp 14) 68 rfl lo 36 i0 (Vi Qi 0) 1 8 Tryz.underlying68 hi0 hq0 hq1 hq2 rfl (by decide) _ _ _ rfl (HO.out.alloc _) ⟨w.heap.size + 1,0,none⟩ 1 1 [Vi Qi 0] rfl rfl HCell.out (by intro u hu; simp at hu; subst hu; rfl) (by unfold maxLen; omega) (by omega) (by have:=Hlz.out; simp; omega) ?_; intro v2 w2 ho2 hg2 _ hloc2; obtain ⟨g2,cap2,rfl⟩:=ownsRow_form ho2 (by omega); have HC1 : Hid _:=Cs.say HC0.out (by have:=Hz.out; simp; omega) hg2 ho2 hloc2; obtain ⟨d1,e1,lB2⟩:=a0j (a2e HC0.out.s hg2 (own_ne HO.out HC0.out.s (by decide))); have HB1 : Hid _:=HBw.out _ _ (Vs (some ⟨g2,0,none⟩) (said.length + 1) cap2) hg2; obtain ⟨d2,e2,lB3⟩:=a0j HC1.out.1.x; have Hrx1 : Hid _:=a2w Hrx.out HB1.out hbl; have HZ2 : Hid _:=a2e HY0.out hg2 (own_ne HO.out HY0.out (by decide)); have hz2:=lt_of_block HZ2.out; have HZ3 : Hid ((World.heap (World.alloc (World.setCell w2 ⟨B1,0,none⟩ (Vs (some ⟨g2,0,none⟩) (said.length + 1) cap2)) (.cells #[Vi Qi tk,.bool true,.bool false,Vi Qi xc.kind,Vi Qi xc.a,Vi Qi xc.b,Vi Qi xc.time,Vi Qi xc.bk,Vi Qi xc.slot] 34)))[w.heap.size]? = some (.cells #[Vs aS W.m.slots.length cS,Vs aH W.m.heads.length cH,Vs aF W.m.free.length cF,Vs aL W.m.a0b.length cL,Vi Qi W.m.now,Vs (some ⟨pT,qT,none⟩) W.ts.length cT] 28 (0,0))):=((a0c _ _).block _ (by first | (simp; done) | (simp; omega) | (have:=HB1.out.size; omega))).trans ((Below.heap_setCell _ _ _ _ (by dsimp only; omega)).trans HZ2.out); obtain ⟨z0,z1,z2,z3,z4,z5,zs⟩:=a1w HZ3.out; have HWn : Hid _:=HW0.out (World.alloc (World.setCell w2 ⟨B1,0,none⟩ (Vs (some ⟨g2,0,none⟩) (said.length + 1) cap2)) (.cells #[Vi Qi tk,.bool true,.bool false,Vi Qi xc.kind,Vi Qi xc.a,Vi Qi xc.b,Vi Qi xc.time,Vi Qi xc.bk,Vi Qi xc.slot] 34)) (fun k h1 h2 => ((a0c _ _).block k (by have:=HB1.out.size; have:=Hz.out; omega)).trans ((HC1.out.2 k h1 h2).trans ((a0c _ _).block k (by have:=Hz.out; omega)))); obtain ⟨lt2,hts2,ht2,p2,q2,hpT,Hrt⟩:=b6x HWn.out hk2; cases hpT; rw [<- Hte.out] at Hrt hts2; clear c1 f1 l1 ho2 hg2 hloc2 HC0 HO HBw)) | refine wl_X (x0:=⟨(tk : Int),true,false,xc⟩) rfl _ rfl rfl Hrx1.out ?_ | refine wl_T rfl _ rfl rfl Hrt.out ?_)
  have HT0:=heap_alloc_new (World.alloc (World.setCell w2 ⟨B1,0,none⟩ (Vs (some ⟨g2,0,none⟩) (said.length + 1) cap2)) (.cells #[Vi Qi tk,.bool true,.bool false,Vi Qi xc.kind,Vi Qi xc.a,Vi Qi xc.b,Vi Qi xc.time,Vi Qi xc.bk,Vi Qi xc.slot] 34)) (.cells #[.bool false,Vi Qi t.f.c.kind,Vi Qi t.f.c.a,Vi Qi t.f.c.b,Vi Qi t.f.c.time,Vi Qi t.f.c.bk,Vi Qi t.f.c.slot,Vi Qi t.f.pl,Vi Qi t.f.cur,Vi Qi t.f.prev,Vi Qi t.f.slot,Vi Qi t.f.n,Vs lt2.aK t.f.keys.length lt2.cK,.bool t.f.done,Vi Qi t.f.e,Vs lt2.aH t.held.length lt2.cH] 49)
  rw [show (World.alloc (World.setCell w2 ⟨B1,0,none⟩ (Vs (some ⟨g2,0,none⟩) (said.length + 1) cap2)) (.cells #[Vi Qi tk,.bool true,.bool false,Vi Qi xc.kind,Vi Qi xc.a,Vi Qi xc.b,Vi Qi xc.time,Vi Qi xc.bk,Vi Qi xc.slot] 34)).heap.size = w2.heap.size + 1 by simp] at HT0
  have HT3 : Hid ((World.alloc (World.alloc (World.setCell w2 ⟨B1,0,none⟩ (Vs (some ⟨g2,0,none⟩) (said.length + 1) cap2)) (.cells #[Vi Qi tk,.bool true,.bool false,Vi Qi xc.kind,Vi Qi xc.a,Vi Qi xc.b,Vi Qi xc.time,Vi Qi xc.bk,Vi Qi xc.slot] 34)) (.cells #[.bool false,Vi Qi t.f.c.kind,Vi Qi t.f.c.a,Vi Qi t.f.c.b,Vi Qi t.f.c.time,Vi Qi t.f.c.bk,Vi Qi t.f.c.slot,Vi Qi t.f.pl,Vi Qi t.f.cur,Vi Qi t.f.prev,Vi Qi t.f.slot,Vi Qi t.f.n,Vs lt2.aK t.f.keys.length lt2.cK,.bool t.f.done,Vi Qi t.f.e,Vs lt2.aH t.held.length lt2.cH] 49)).heap[w2.heap.size + 1]? = some (.cells #[.bool false,Vi Qi t.f.c.kind,Vi Qi t.f.c.a,Vi Qi t.f.c.b,Vi Qi t.f.c.time,Vi Qi t.f.c.bk,Vi Qi t.f.c.slot,Vi Qi t.f.pl,Vi Qi t.f.cur,Vi Qi t.f.prev,Vi Qi t.f.slot,Vi Qi t.f.n,Vs lt2.aK t.f.keys.length lt2.cK,.bool t.f.done,Vi Qi t.f.e,Vs lt2.aH t.held.length lt2.cH] 49 (0,0))):=HT0
  have HX0:=heap_alloc_new (World.setCell w2 ⟨B1,0,none⟩ (Vs (some ⟨g2,0,none⟩) (said.length + 1) cap2)) (.cells #[Vi Qi tk,.bool true,.bool false,Vi Qi xc.kind,Vi Qi xc.a,Vi Qi xc.b,Vi Qi xc.time,Vi Qi xc.bk,Vi Qi xc.slot] 34)
  rw [show (World.setCell w2 ⟨B1,0,none⟩ (Vs (some ⟨g2,0,none⟩) (said.length + 1) cap2)).heap.size = w2.heap.size by simp] at HX0
  have HX3 : Hid ((World.alloc (World.alloc (World.setCell w2 ⟨B1,0,none⟩ (Vs (some ⟨g2,0,none⟩) (said.length + 1) cap2)) (.cells #[Vi Qi tk,.bool true,.bool false,Vi Qi xc.kind,Vi Qi xc.a,Vi Qi xc.b,Vi Qi xc.time,Vi Qi xc.bk,Vi Qi xc.slot] 34)) (.cells #[.bool false,Vi Qi t.f.c.kind,Vi Qi t.f.c.a,Vi Qi t.f.c.b,Vi Qi t.f.c.time,Vi Qi t.f.c.bk,Vi Qi t.f.c.slot,Vi Qi t.f.pl,Vi Qi t.f.cur,Vi Qi t.f.prev,Vi Qi t.f.slot,Vi Qi t.f.n,Vs lt2.aK t.f.keys.length lt2.cK,.bool t.f.done,Vi Qi t.f.e,Vs lt2.aH t.held.length lt2.cH] 49)).heap[w2.heap.size]? = some (.cells #[Vi Qi tk,.bool true,.bool false,Vi Qi xc.kind,Vi Qi xc.a,Vi Qi xc.b,Vi Qi xc.time,Vi Qi xc.bk,Vi Qi xc.slot] 34 (0,0))):=((a0c _ _).block _ (lt_of_block HX0)).trans HX0
  have HC3 : Hid (Cs lo a b (World.alloc (World.alloc (World.setCell w2 ⟨B1,0,none⟩ (Vs (some ⟨g2,0,none⟩) (said.length + 1) cap2)) (.cells #[Vi Qi tk,.bool true,.bool false,Vi Qi xc.kind,Vi Qi xc.a,Vi Qi xc.b,Vi Qi xc.time,Vi Qi xc.bk,Vi Qi xc.slot] 34)) (.cells #[.bool false,Vi Qi t.f.c.kind,Vi Qi t.f.c.a,Vi Qi t.f.c.b,Vi Qi t.f.c.time,Vi Qi t.f.c.bk,Vi Qi t.f.c.slot,Vi Qi t.f.pl,Vi Qi t.f.cur,Vi Qi t.f.prev,Vi Qi t.f.slot,Vi Qi t.f.n,Vs lt2.aK t.f.keys.length lt2.cK,.bool t.f.done,Vi Qi t.f.e,Vs lt2.aH t.held.length lt2.cH] 49)) B1 B2 B3 B4 g (Vs (some ⟨g2,0,none⟩) (said.length + 1) cap2) (Vs (some ⟨bP,oP,none⟩) l.length cP) v4 (said ++ [0]) pl beg Z):=(HC1.out.1.below (a0c _ _)).below (a0c _ _)
  have HK3 : Hid (KRow (World.alloc (World.alloc (World.setCell w2 ⟨B1,0,none⟩ (Vs (some ⟨g2,0,none⟩) (said.length + 1) cap2)) (.cells #[Vi Qi tk,.bool true,.bool false,Vi Qi xc.kind,Vi Qi xc.a,Vi Qi xc.b,Vi Qi xc.time,Vi Qi xc.bk,Vi Qi xc.slot] 34)) (.cells #[.bool false,Vi Qi t.f.c.kind,Vi Qi t.f.c.a,Vi Qi t.f.c.b,Vi Qi t.f.c.time,Vi Qi t.f.c.bk,Vi Qi t.f.c.slot,Vi Qi t.f.pl,Vi Qi t.f.cur,Vi Qi t.f.prev,Vi Qi t.f.slot,Vi Qi t.f.n,Vs lt2.aK t.f.keys.length lt2.cK,.bool t.f.done,Vi Qi t.f.e,Vs lt2.aH t.held.length lt2.cH] 49)) lt2.aK lt2.cK t.f.keys):=hts2.out.below (a0c _ _)
  have hq : ∀ o : Obj,Below lo w (World.alloc _ o):=fun o => HB1.out.alloc (by have:=HB1.out.size; have:=Hlz.out; omega) o
  have HBl3 : Hid (Below lo w (World.alloc (World.alloc (World.setCell w2 ⟨B1,0,none⟩ (Vs (some ⟨g2,0,none⟩) (said.length + 1) cap2)) (.cells #[Vi Qi tk,.bool true,.bool false,Vi Qi xc.kind,Vi Qi xc.a,Vi Qi xc.b,Vi Qi xc.time,Vi Qi xc.bk,Vi Qi xc.slot] 34)) (.cells #[.bool false,Vi Qi t.f.c.kind,Vi Qi t.f.c.a,Vi Qi t.f.c.b,Vi Qi t.f.c.time,Vi Qi t.f.c.bk,Vi Qi t.f.c.slot,Vi Qi t.f.pl,Vi Qi t.f.cur,Vi Qi t.f.prev,Vi Qi t.f.slot,Vi Qi t.f.n,Vs lt2.aK t.f.keys.length lt2.cK,.bool t.f.done,Vi Qi t.f.e,Vs lt2.aH t.held.length lt2.cH] 49))):=(hq _).alloc (by have:=(hq (.cells #[Vi Qi tk,.bool true,.bool false,Vi Qi xc.kind,Vi Qi xc.a,Vi Qi xc.b,Vi Qi xc.time,Vi Qi xc.bk,Vi Qi xc.slot] 34)).size; have:=Hlz.out; omega) _
  have Hwin3 : Hid (∀ k,a<=k->k < b->(World.alloc (World.alloc (World.setCell w2 ⟨B1,0,none⟩ (Vs (some ⟨g2,0,none⟩) (said.length + 1) cap2)) (.cells #[Vi Qi tk,.bool true,.bool false,Vi Qi xc.kind,Vi Qi xc.a,Vi Qi xc.b,Vi Qi xc.time,Vi Qi xc.bk,Vi Qi xc.slot] 34)) (.cells #[.bool false,Vi Qi t.f.c.kind,Vi Qi t.f.c.a,Vi Qi t.f.c.b,Vi Qi t.f.c.time,Vi Qi t.f.c.bk,Vi Qi t.f.c.slot,Vi Qi t.f.pl,Vi Qi t.f.cur,Vi Qi t.f.prev,Vi Qi t.f.slot,Vi Qi t.f.n,Vs lt2.aK t.f.keys.length lt2.cK,.bool t.f.done,Vi Qi t.f.e,Vs lt2.aH t.held.length lt2.cH] 49)).heap[k]? = w.heap[k]?):=fun k h1 h2 => ((a0c _ _).block k (by have:=HB1.out.size; have:=Hz.out; simp at *; omega)).trans (((a0c _ _).block k (by have:=HB1.out.size; have:=Hz.out; omega)).trans ((HC1.out.2 k h1 h2).trans ((a0c _ _).block k (by have:=Hz.out; omega))))
  clear HT0 HX0 hq HC1 Hrt Hrx1 HWn HZ3 HZ2 z0 z1 z2 z3 z4 z5 zs hts2 d1 e1 d2 e2 lB2 lB3 HB1
  clear HCell HY0 HW0
  generalize World.alloc (World.alloc (World.setCell w2 ⟨B1,0,none⟩ (Vs (some ⟨g2,0,none⟩) (said.length + 1) cap2)) (.cells #[Vi Qi tk,.bool true,.bool false,Vi Qi xc.kind,Vi Qi xc.a,Vi Qi xc.b,Vi Qi xc.time,Vi Qi xc.bk,Vi Qi xc.slot] 34)) (.cells #[.bool false,Vi Qi t.f.c.kind,Vi Qi t.f.c.a,Vi Qi t.f.c.b,Vi Qi t.f.c.time,Vi Qi t.f.c.bk,Vi Qi t.f.c.slot,Vi Qi t.f.pl,Vi Qi t.f.cur,Vi Qi t.f.prev,Vi Qi t.f.slot,Vi Qi t.f.n,Vs lt2.aK t.f.keys.length lt2.cK,.bool t.f.done,Vi Qi t.f.e,Vs lt2.aH t.held.length lt2.cH] 49) = W3 at *
  generalize w2.heap.size = X at *
  obtain ⟨t0,t1,t2,t3,t4,t5,t6,t7,t8,t9,t10,t11,t12,t13,t14,t15,ts⟩:=taskf HT3.out
  have x0 : W3.cell? ⟨X,0,none⟩ = some (Vi Qi tk):=by rw [cell_of_block HX3.out]; rfl
  have d3:=(a0j HC3.out.f).1
  have d4:=(a0j HC3.out.p).1
  have htb : tk < beg.length:=by omega
  have d5:=Cs.fat HC3.out htb
  obtain ⟨a4,k4,rfl⟩:=a2c HC3.out.po
  obtain ⟨j0,hj0,hr0,hr1,hr2⟩:=info_parts iP
  have HTo : Hid (∀ V : World,Below W3.heap.size W3 V->Calls Tryz.prog 81 #[.agg #[Vi Qi t.f.c.kind,Vi Qi t.f.c.a,Vi Qi t.f.c.b,Vi Qi t.f.c.time,Vi Qi t.f.c.bk,Vi Qi t.f.c.slot,Vi Qi t.f.pl,Vi Qi t.f.cur,Vi Qi t.f.prev,Vi Qi t.f.slot,Vi Qi t.f.n,Vs lt2.aK t.f.keys.length lt2.cK,.bool t.f.done,Vi Qi t.f.e],Vi Qi tk,Vi Qi (beg.getD tk 0 : Nat),Vi Qi i] V (ToldP V t.f tk (beg.getD tk 0 : Nat) i)):=fun V hb => told_any t.f tk _ _ lt2.aK lt2.cK V (HK3.out.below hb)
  clear t15 t0
  refine b1f (by kernel_rfl) actL rfl [43,44,45,46,47,48,49,50,51,52,53,54,55] (by decide) 13 rfl rfl (by kernel_rfl) (by kernel_rfl) (by kernel_rfl) (phiL X (beg.getD tk 0) g tk i (Vs a4 pl.length k4) (Vs (some ⟨g,0,none⟩) beg.length beg.length) t.f lt2.aK lt2.cK W3.heap.size) c1o ?_ ?_
  · intro k hk' x W hb hout hpre
    have HCw:=HC3.out.below hb
    have HTw:=(hb.block _ (lt_of_block HT3.out)).trans HT3.out
    have HXw:=(hb.block _ (lt_of_block HX3.out)).trans HX3.out
    have x0' : x 0 = Vi Qi i:=hout 0 (by decide)
    have x5 : x 5 = .pointer (some ⟨B3,0,none⟩):=hout 5 (by decide)
    have x6 : x 6 = .pointer (some ⟨B4,0,none⟩):=hout 6 (by decide)
    have x10 : x 10 = .pointer (some ⟨X,0,none⟩):=hout 10 (by decide)
    have x11 : x 11 = .pointer (some ⟨X + 1,0,none⟩):=hout 11 (by decide)
    have q4:=(a0j HCw.p).1
    have q3:=(a0j HCw.f).1
    have q5:=Cs.fat HCw htb
    have qx : W.cell? ⟨X,0,none⟩ = some (Vi Qi tk):=by rw [cell_of_block HXw]; rfl
    obtain ⟨u0,u1,u2,u3,u4,u5,u6,u7,u8,u9,u10,u11,u12,u13,u14,u15,us⟩:=taskf HTw
    obtain rfl | rfl | rfl | rfl | rfl | rfl | rfl | rfl | rfl | rfl | rfl | rfl | rfl : k = 0\/k = 1\/k = 2\/k = 3\/k = 4\/k = 5\/k = 6\/k = 7\/k = 8\/k = 9\/k = 10\/k = 11\/k = 12:=by omega
    · exact a1k rfl (a0u rfl) (v:=valL X (beg.getD tk 0) g tk i (Vs a4 pl.length k4) (Vs (some ⟨g,0,none⟩) beg.length beg.length) t.f lt2.aK lt2.cK 0) (w':=W) (by simp [execOp,go_sem,valL,(show (actL x).tmps[6]?.getD undef = _ from x6),q4]) ⟨_,rfl,a3g (by decide) (by decide),Below.refl _ _⟩
    · exact a1k rfl (a0u rfl) (v:=valL X (beg.getD tk 0) g tk i (Vs a4 pl.length k4) (Vs (some ⟨g,0,none⟩) beg.length beg.length) t.f lt2.aK lt2.cK 1) (w':=W) (by simp [execOp,go_sem,valL,(show (actL x).tmps[11]?.getD undef = _ from x11),Addr.add]) ⟨_,rfl,a3g (by decide) (by decide),Below.refl _ _⟩
    · have p1:=(hpre 1 (by omega) (by kernel_rfl)).1 (by decide) (by decide); simp only [valL,List.getD_cons_zero,List.getD_cons_succ] at p1; exact a1k rfl (a0u rfl) (v:=valL X (beg.getD tk 0) g tk i (Vs a4 pl.length k4) (Vs (some ⟨g,0,none⟩) beg.length beg.length) t.f lt2.aK lt2.cK 2) (w':=W) (by simp [execOp,go_sem,valL,(show (actL x).tmps[44]?.getD undef = _ from p1),u1,u2,u3,u4,u5,u6,u7,u8,u9,u10,u11,u12,u13,u14]) ⟨_,rfl,a3g (by decide) (by decide),Below.refl _ _⟩
    · exact a1k rfl (a0u rfl) (v:=valL X (beg.getD tk 0) g tk i (Vs a4 pl.length k4) (Vs (some ⟨g,0,none⟩) beg.length beg.length) t.f lt2.aK lt2.cK 3) (w':=W) (by simp [execOp,go_sem,valL,(show (actL x).tmps[10]?.getD undef = _ from x10),Addr.add]) ⟨_,rfl,a3g (by decide) (by decide),Below.refl _ _⟩
    · have p3:=(hpre 3 (by omega) (by kernel_rfl)).1 (by decide) (by decide); simp only [valL,List.getD_cons_zero,List.getD_cons_succ] at p3; exact a1k rfl (a0u rfl) (v:=valL X (beg.getD tk 0) g tk i (Vs a4 pl.length k4) (Vs (some ⟨g,0,none⟩) beg.length beg.length) t.f lt2.aK lt2.cK 4) (w':=W) (by simp [execOp,go_sem,valL,(show (actL x).tmps[46]?.getD undef = _ from p3),qx]) ⟨_,rfl,a3g (by decide) (by decide),Below.refl _ _⟩
    · exact a1k rfl (a0u rfl) (v:=valL X (beg.getD tk 0) g tk i (Vs a4 pl.length k4) (Vs (some ⟨g,0,none⟩) beg.length beg.length) t.f lt2.aK lt2.cK 5) (w':=W) (by simp [execOp,go_sem,valL,(show (actL x).tmps[5]?.getD undef = _ from x5),q3]) ⟨_,rfl,a3g (by decide) (by decide),Below.refl _ _⟩
    · exact a1k rfl (a0u rfl) (v:=valL X (beg.getD tk 0) g tk i (Vs a4 pl.length k4) (Vs (some ⟨g,0,none⟩) beg.length beg.length) t.f lt2.aK lt2.cK 6) (w':=W) (by simp [execOp,go_sem,valL,(show (actL x).tmps[10]?.getD undef = _ from x10),Addr.add]) ⟨_,rfl,a3g (by decide) (by decide),Below.refl _ _⟩
    · have p6:=(hpre 6 (by omega) (by kernel_rfl)).1 (by decide) (by decide); simp only [valL,List.getD_cons_zero,List.getD_cons_succ] at p6; exact a1k rfl (a0u rfl) (v:=valL X (beg.getD tk 0) g tk i (Vs a4 pl.length k4) (Vs (some ⟨g,0,none⟩) beg.length beg.length) t.f lt2.aK lt2.cK 7) (w':=W) (by simp [execOp,go_sem,valL,(show (actL x).tmps[49]?.getD undef = _ from p6),qx]) ⟨_,rfl,a3g (by decide) (by decide),Below.refl _ _⟩
    · have p5:=(hpre 5 (by omega) (by kernel_rfl)).1 (by decide) (by decide); simp only [valL,List.getD_cons_zero,List.getD_cons_succ] at p5; have p7:=(hpre 7 (by omega) (by kernel_rfl)).1 (by decide) (by decide); simp only [valL,List.getD_cons_zero,List.getD_cons_succ] at p7; exact a1k rfl (a0u rfl) (v:=valL X (beg.getD tk 0) g tk i (Vs a4 pl.length k4) (Vs (some ⟨g,0,none⟩) beg.length beg.length) t.f lt2.aK lt2.cK 8) (w':=W) (by simp [execOp,go_sem,valL,(show (actL x).tmps[48]?.getD undef = _ from p5),(show (actL x).tmps[50]?.getD undef = _ from p7),htb,Addr.add]; omega) ⟨_,rfl,a3g (by decide) (by decide),Below.refl _ _⟩
    · have p8:=(hpre 8 (by omega) (by kernel_rfl)).1 (by decide) (by decide); simp only [valL,List.getD_cons_zero,List.getD_cons_succ] at p8; exact a1k rfl (a0u rfl) (v:=valL X (beg.getD tk 0) g tk i (Vs a4 pl.length k4) (Vs (some ⟨g,0,none⟩) beg.length beg.length) t.f lt2.aK lt2.cK 9) (w':=W) (by simp [execOp,go_sem,valL,(show (actL x).tmps[51]?.getD undef = _ from p8),q5]) ⟨_,rfl,a3g (by decide) (by decide),Below.refl _ _⟩
    · exact a1k rfl (a0u rfl) (v:=valL X (beg.getD tk 0) g tk i (Vs a4 pl.length k4) (Vs (some ⟨g,0,none⟩) beg.length beg.length) t.f lt2.aK lt2.cK 10) (w':=W) (by simp [execOp,go_sem,valL,(show (actL x).tmps[0]?.getD undef = _ from x0')]) ⟨_,rfl,a3g (by decide) (by decide),Below.refl _ _⟩
    · have p2:=(hpre 2 (by omega) (by kernel_rfl)).1 (by decide) (by decide); simp only [valL,List.getD_cons_zero,List.getD_cons_succ] at p2; have p4:=(hpre 4 (by omega) (by kernel_rfl)).1 (by decide) (by decide); simp only [valL,List.getD_cons_zero,List.getD_cons_succ] at p4; have p9:=(hpre 9 (by omega) (by kernel_rfl)).1 (by decide) (by decide); simp only [valL,List.getD_cons_zero,List.getD_cons_succ] at p9; have p10:=(hpre 10 (by omega) (by kernel_rfl)).1 (by decide) (by decide); simp only [valL,List.getD_cons_zero,List.getD_cons_succ] at p10; 
      refine b8v rfl (a0u rfl) (f:=81) (args:=#[.agg #[Vi Qi t.f.c.kind,Vi Qi t.f.c.a,Vi Qi t.f.c.b,Vi Qi t.f.c.time,Vi Qi t.f.c.bk,Vi Qi t.f.c.slot,Vi Qi t.f.pl,Vi Qi t.f.cur,Vi Qi t.f.prev,Vi Qi t.f.slot,Vi Qi t.f.n,Vs lt2.aK t.f.keys.length lt2.cK,.bool t.f.done,Vi Qi t.f.e],Vi Qi tk,Vi Qi (beg.getD tk 0 : Nat),Vi Qi i]) (by simp [execOp,go_sem,(show (actL x).tmps[45]?.getD undef = _ from p2),(show (actL x).tmps[47]?.getD undef = _ from p4),(show (actL x).tmps[52]?.getD undef = _ from p9),(show (actL x).tmps[53]?.getD undef = _ from p10)]) ((HTo.out W hb).mono ?_)
      rintro e w4 ⟨a2,c2,rfl,ho4,hb4⟩
      exact ⟨_,rfl,_,rfl,⟨fun h => (h rfl).elim,fun _ => ⟨a2,c2,rfl,ho4.le hb.size⟩,fun h => absurd h (by decide)⟩,hb4⟩
    · obtain ⟨a2,c2,e11,hko⟩:=(hpre 11 (by omega) (by kernel_rfl)).2.1 rfl
      simp only [List.getD_cons_zero,List.getD_cons_succ] at e11
      refine a1k rfl (a0u rfl) (v:=Vs (some ⟨W.heap.size,0,none⟩) 1 1) (w':=W.alloc (.cells #[Vi Qi tk,Vi Qi t.f.c.kind,Vi Qi t.f.c.a,Vi Qi t.f.c.b,Vi Qi t.f.c.time,Vi Qi t.f.c.bk,Vi Qi t.f.c.slot,Vi Qi (beg.getD tk 0 : Nat),Vi Qi i,Vi Qi t.f.e,Vi Qi t.f.slot,Vi Qi t.f.n,Vs a2 t.f.keys.length c2] 78)) (by simp [execOp,go_sem,(show (actL x).tmps[54]?.getD undef = _ from e11)]) ⟨_,rfl,⟨fun _ h => (h rfl).elim,fun h => absurd h (by decide),fun _ => ⟨a2,c2,W.heap.size,rfl,heap_alloc_new _ _,hko.below (a0c _ _)⟩⟩,a0c _ _⟩
  · intro x W hb hout hφ
    have HCw : Hid _:=HC3.out.below hb
    have x6 : x 6 = .pointer (some ⟨B4,0,none⟩):=hout 6 (by decide)
    have p0:=(hφ 0 (by omega)).1 (by decide) (by decide)
    obtain ⟨a2,c2,p,e12,hbk,hko⟩:=(hφ 12 (by omega)).2.2 rfl
    simp only [valL,List.getD_cons_zero,List.getD_cons_succ] at p0 e12
    refine wpOp_step rfl fun K' hK => ?_
    refine a3i W rfl (.tmp 43) (.tmp 55) 69 rfl lo 78 j0 (.agg #[Vi Qi 0,Vi Qi 0,Vi Qi 0,Vi Qi 0,Vi Qi 0,Vi Qi 0,Vi Qi 0,Vi Qi 0,Vi Qi 0,Vi Qi 0,Vi Qi 0,Vi Qi 0,Vs none 0 0]) 13 120 Tryz.underlying69 hj0 hr0 hr1 hr2 rfl (by decide) (Vs a4 pl.length k4) _ _ (show x 43 = _ from p0) HCw.out.po ⟨p,0,none⟩ 1 1 [Vi Qi tk,Vi Qi t.f.c.kind,Vi Qi t.f.c.a,Vi Qi t.f.c.b,Vi Qi t.f.c.time,Vi Qi t.f.c.bk,Vi Qi t.f.c.slot,Vi Qi (beg.getD tk 0 : Nat),Vi Qi i,Vi Qi t.f.e,Vi Qi t.f.slot,Vi Qi t.f.n,Vs a2 t.f.keys.length c2] (show x 55 = _ from e12) rfl (a8i hbk) (by intro u hu; simp only [List.mem_cons,List.not_mem_nil,or_false] at hu; rcases hu with rfl | rfl | rfl | rfl | rfl | rfl | rfl | rfl | rfl | rfl | rfl | rfl | rfl <;> rfl) (by unfold maxLen; omega) (by omega) (by have:=Hlz.out; have:=HBl3.out.size; have:=hb.size; omega) ?_
    intro v5 w5 ho5 hg5 _ hloc5
    refine hK _ _ ?_
    obtain ⟨g5,cap5,rfl⟩:=ownsRow_form ho5 (by omega)
    have HB5 : w5.heap[B4]? = _:=(hg5.block _ (lt_of_block HCw.out.p) (fun e => own_ne HCw.out.po HCw.out.p (by decide) e.symm)).trans HCw.out.p
    obtain ⟨n1,n2,n3⟩:=a0j HB5
    have hlz3 : lo<=W3.heap.size:=by have:=Hlz.out; have:=HBl3.out.size; omega
    have hbz : b<=W3.heap.size:=by have:=Hz.out; have:=HBl3.out.size; omega
    have HT:=Cs.tellW HCw.out (by have:=hb.size; omega) (v':=Vs (some ⟨g5,0,none⟩) (pl.length + 1) cap5) (q:=(⟨(tk : Int),t.f.c,beg.getD tk 0,i,t.f.e,t.f.slot,t.f.n,t.f.keys⟩,a2,c2)) (hko.le hlz3) (fun ad e hx => by have:=(hko.lt ad e).1; have:=hx.2; omega) hg5 ho5 hloc5
    have HBf : Below lo w (w5.setCell ⟨B4,0,none⟩ (Vs (some ⟨g5,0,none⟩) (pl.length + 1) cap5)):=((HBl3.out.trans (hb.mono hlz3)).grown hg5 (by have:=hb.size; omega) (fun k hk => (HCw.out.po.lt k hk).1)).setCell HCw.out.o4.1 _
    refine a8d rfl (a0u rfl) (w':=w5.setCell ⟨B4,0,none⟩ (Vs (some ⟨g5,0,none⟩) (pl.length + 1) cap5)) (by simp [execOp,go_sem,Act.put,actL,x6,n1,n2]) ?_
    refine bodyPost_end (results_none rfl _ _ _) rfl ?_
    refine ⟨_,_,_,rfl,HT.1,?_,HBf,fun k h1 h2 => (HT.2 k h1 h2).trans ((hb.block k (by omega)).trans (Hwin3.out k h1 h2))⟩
    rw [List.map_append]
    rfl
end
section
open Go.ChangeShapes Go.WideShapes Go.ChangeAt Go.RowKit Go.Joins Go.Deep Go.Maps
theorem c0v (lo a b : Nat) (w : World) (B1 B2 B3 B4 g : Nat) (aP : Option Addr) (cP : Nat) (l : List Pk) (v1 v4 : Value) (said : List Int) (pl : List (Pst × Option Addr × Nat)) (beg : List Nat) (Z : List (Nat × Array Value)) (W : Wd) (v : Value) (i : Nat) (E : Int)
    (h : Cs lo a b w B1 B2 B3 B4 g v1 (Vs aP l.length cP) v4 said pl beg Z) (hz : b<=w.heap.size) (hr : PRow w aP cP l) (hrl : ∀ ad,aP = some ad->ad.block < lo) (hi : i < l.length) (hs : said.length<=300) (hps : pl.length<=300) (hW : WIn a b w v W)
    (hx : E = 0->(l[i]'hi).tick = false->0<=(l[i]'hi).task/\(l[i]'hi).task < W.ts.length) (hbl : beg.length = W.ts.length) :
    Calls Tryz.prog 80 #[Vi Qi i,v,Vi Qi E,.pointer (some ⟨B1,0,none⟩),.pointer (some ⟨B2,0,none⟩),.pointer (some ⟨B3,0,none⟩),.pointer (some ⟨B4,0,none⟩)] w (LitP lo a b w B1 B2 B3 B4 g (Vs aP l.length cP) (said ++ [E]) (litP (l[i]'hi) E i beg W (pl.map (·.1))) (litB (l[i]'hi) E i beg) Z):=by
  by_cases h0 : E = 0
  rotate_left
  · have h1:=lit_err lo a b w B1 B2 B3 B4 g aP cP l v1 v4 said pl beg Z W v i E h hz hr hrl hi hs hps hW h0
    unfold litP litB
    rw [if_pos (.inl h0),if_pos (.inl h0)]
    exact h1
  cases hT : (l[i]'hi).tick
  rotate_left
  · have h1:=lit_tick lo a b w B1 B2 B3 B4 g aP cP l v1 v4 said pl beg Z W v i E h hz hr hrl hi hs hps hW h0 hT
    unfold litP litB
    rw [if_pos (.inr hT),if_pos (.inr hT)]
    exact h1
  have hk:=hx h0 hT
  have hn : ¬ (E ≠ 0\/(l[i]'hi).tick = true):=by rw [hT]; simp [h0]
  cases hS : (l[i]'hi).step
  · have h1:=c0w lo a b w B1 B2 B3 B4 g aP cP l v1 v4 said pl beg Z W v i E h hz hr hrl hi hs hps hW h0 hT hS (by rw [hbl]; exact hk)
    unfold litP litB
    rw [if_neg hn,if_neg hn,if_neg (by rw [hS]; simp),if_neg (by rw [hS]; simp)]
    exact h1
  cases hB : (W.ts.getD (l[i]'hi).task.toNat idle).busy
  · have h1:=lit_over lo a b w B1 B2 B3 B4 g aP cP l v1 v4 said pl beg Z W v i E h hz hr hrl hi hs hps hW h0 hT hS hk hB hbl
    unfold litP litB
    rw [if_neg hn,if_neg hn,if_pos hS,if_pos hS,if_neg (by rw [hB]; simp)]
    exact h1
  · have h1:=lit_busy lo a b w B1 B2 B3 B4 g aP cP l v1 v4 said pl beg Z W v i E h hz hr hrl hi hs hps hW h0 hT hS hk hB
    unfold litP litB
    rw [if_neg hn,if_neg hn,if_pos hS,if_pos hS,if_pos hB]
    exact h1
theorem stepR_eq (n : Nat) (s : Rs) (x : Pk) : b0z n s x = ⟨b3d s.w x,s.said ++ [doE s.w x],litP x (doE s.w x) n s.beg (b3d s.w x) s.past,litB x (doE s.w x) n s.beg⟩:=by
  unfold b0z b3d litP litB
  by_cases h : doE s.w x = 0
  · rw [if_pos h,if_pos h,h]
    cases hT : x.tick
    · cases hS : x.step
      · simp
      · simp
        split <;> simp_all
    · simp
  · rw [if_neg h,if_neg h,if_pos (.inl h),if_pos (.inl h)]
section
variable {lo a b : Nat} {w w' : World} {B1 B2 B3 B4 g : Nat} {v1 v2 v4 : Value} {said : List Int} {pl : List (Pst × Option Addr × Nat)} {beg : List Nat} {Z : List (Nat × Array Value)}
theorem Cs.wide (h : Cs lo a b w B1 B2 B3 B4 g v1 v2 v4 said pl beg Z) : Cs lo 0 0 w B1 B2 B3 B4 g v1 v2 v4 said pl beg Z :=
  have hz : ∀ k,Out 0 0 k:=fun k hx => by have:=hx.2; omega
  ⟨h.s,h.so,fun k _ => hz k,h.f,h.fo,hz _,h.p,h.po,fun k _ => hz k,fun q hq => ⟨(h.pk q hq).1,fun ad _ => hz _⟩,⟨h.o1.1,hz _⟩,⟨h.o3.1,hz _⟩,⟨h.o4.1,hz _⟩,h.og,h.x,⟨h.ox.1,hz _⟩,h.z⟩
theorem Cs.off (h : Cs lo a b w B1 B2 B3 B4 g v1 v2 v4 said pl beg Z) {X : Nat} {c : Array Value} (hX : w.heap[X]? = some (.cells c 28 (0,0))) (hk : ∀ k,k ≠ X->w'.heap[k]? = w.heap[k]?) (hZ : ∀ q ∈ Z,q.1 ≠ X) : Cs lo a b w' B1 B2 B3 B4 g v1 v2 v4 said pl beg Z:=by
  have nb : ∀ {Y : Nat} {cs : Array Value} {t' : TypeId},w.heap[Y]? = some (.cells cs t' (0,0))->t' ≠ 28->w'.heap[Y]? = some (.cells cs t' (0,0)):=fun hY n2 => by
    refine (hk _ ?_).trans hY
    rintro rfl
    rw [hX] at hY
    injection hY with hY
    injection hY with _ hY
    exact n2 hY.symm
  have nr : ∀ {lo' size n' : Nat} {t' : TypeId} {u : Value} {xs : List Value},w.ownsRow lo' t' size u n' xs->t' ≠ 28->w'.ownsRow lo' t' size u n' xs:=fun hu n2 => by
    refine a1u hu fun k hu' => hk k ?_
    rintro rfl
    exact own_ne hu hX n2 hu'
  exact ⟨nb h.s (by decide),nr h.so (by decide),h.sx,nb h.f (by decide),nb h.fo (by decide),h.fx,nb h.p (by decide),nr h.po (by decide),h.px,fun q hq => ⟨⟨nr (h.pk q hq).1.own (by decide)⟩,(h.pk q hq).2⟩,h.o1,h.o3,h.o4,h.og,nb h.x (by decide),h.ox,fun q hq => (hk _ (hZ q hq)).trans (h.z q hq)⟩
theorem Cs.more (h : Cs lo a b w B1 B2 B3 B4 g v1 v2 v4 said pl beg Z) {Z' : List (Nat × Array Value)} (hZ : ∀ q ∈ Z',w.heap[q.1]? = some (.cells q.2 28 (0,0))) : Cs lo a b w B1 B2 B3 B4 g v1 v2 v4 said pl beg Z' :=
  ⟨h.s,h.so,h.sx,h.f,h.fo,h.fx,h.p,h.po,h.px,h.pk,h.o1,h.o3,h.o4,h.og,h.x,h.ox,hZ⟩
end
theorem THi.le {lo lo' : Nat} {ao : Option Addr} {l : List (Tk × TkV)} (h : THi lo ao l) (hl : lo'<=lo) : THi lo' ao l:=⟨fun ad e => Nat.le_trans hl (h.row ad e),fun p hp ad e => Nat.le_trans hl (h.keys p hp ad e),fun p hp ad e => Nat.le_trans hl (h.held p hp ad e)⟩
theorem OwnP.wans {w : World} {M : Mm} {ts : List Tk} {e : Ending} {w' : World} (h : OwnP w M ts e w') (m1 : M.slots.length * 48<=140737488351232) (m2 : M.heads.length * 8<=140737488351232) (m3 : M.free.length * 8<=140737488351232) (m4 : M.a0b.length * 8<=140737488351232) : ∃ v,e = .returned v/\WAns w.heap.size w' v ⟨M,ts⟩/\Below w.heap.size w w':=by
  obtain ⟨gS,gH,gF,gL,kS,kH,kF,kL,gg,c,l',lo2,rfl,R,L,T,-,hts,hlo,hb⟩:=h
  refine ⟨_,rfl,⟨gS,gH,gF,gL,kS,kH,kF,kL,some ⟨gg,0,none⟩,c,l',?_,R.at m1 m2 m3 m4,R.hi,hts.symm,T.trow,T.thi.le hlo⟩,hb⟩
  subst hts
  simp only [List.length_map]
def TurnP (lo X : Nat) (w : World) (B1 B2 B3 B4 g : Nat) (v2 : Value) (s : Rs) (Z : List (Nat × Array Value)) (e : Ending) (w' : World) : Prop :=
  ∃ v v1 v4 pl,e = .returned v/\Cs lo 0 0 w' B1 B2 B3 B4 g v1 v2 v4 s.said pl s.beg Z/\pl.map (·.1) = s.past/\WAns X w' v s.w/\Below lo w w'
end
section
open Go.ChangeShapes Go.WideShapes Go.ChangeAt Go.RowKit Go.Joins Go.Deep Go.Maps
theorem do_inv {W : Wd} (I : WInv W) {x : Pk} {lo : Nat} {V : World} {aS aH aF aL : Option Addr} {cS cH cF cL : Nat} {aT : Option Addr} {cT : Nat} (h : WAns lo V (.agg #[Vs aS W.m.slots.length cS,Vs aH W.m.heads.length cH,Vs aF W.m.free.length cF,Vs aL W.m.a0b.length cL,Vi Qi W.m.now,Vs aT W.ts.length cT]) W) :
    Calls Tryz.prog 15 #[.agg #[Vs aS W.m.slots.length cS,Vs aH W.m.heads.length cH,Vs aF W.m.free.length cF,Vs aL W.m.a0b.length cL,Vi Qi W.m.now,Vs aT W.ts.length cT],.agg #[Vi Qi x.task,.bool x.step,.bool x.tick,Vi Qi x.c.kind,Vi Qi x.c.a,Vi Qi x.c.b,Vi Qi x.c.time,Vi Qi x.c.bk,Vi Qi x.c.slot]] V fun e V' => ∃ v,e = .returned (.tuple #[v,Vi Qi (doE W x)])/\WAns V.heap.size V' v (if doE W x = 0 then doW W x else w0W)/\Below V.heap.size V V':=by
  obtain ⟨bS,bH,bF,bL,dS,dH,dF,dL,bT,dT,lt,e,A,hi,hts,hT,hTh⟩:=h
  have e1:=Value.agg.inj e
  simp only [Array.mk.injEq,List.cons.injEq,Value.slice.injEq,true_and,and_true] at e1
  obtain ⟨⟨rfl,rfl⟩,⟨rfl,rfl⟩,⟨rfl,rfl⟩,⟨rfl,rfl⟩,rfl,rfl⟩:=e1
  have h:=b9m W.m lt x aS aH aF aL cS cH cF cL aT cT V A hT
  have hts' : lt.length = W.ts.length:=by rw [hts,List.length_map]
  rw [<- hts,hts'] at h
  refine h.mono ?_
  rintro e w' ⟨v,rfl,h1,h2⟩
  rw [I.DoE] at h1 ⊢
  exact ⟨v,rfl,h1,h2⟩
theorem own_inv {W : Wd} (I : WInv W) {lo : Nat} {V : World} {aS aH aF aL : Option Addr} {cS cH cF cL : Nat} {aT : Option Addr} {cT : Nat} (h : WAns lo V (.agg #[Vs aS W.m.slots.length cS,Vs aH W.m.heads.length cH,Vs aF W.m.free.length cF,Vs aL W.m.a0b.length cL,Vi Qi W.m.now,Vs aT W.ts.length cT]) W) :
    Calls Tryz.prog 57 #[.agg #[Vs aS W.m.slots.length cS,Vs aH W.m.heads.length cH,Vs aF W.m.free.length cF,Vs aL W.m.a0b.length cL,Vi Qi W.m.now,Vs aT W.ts.length cT]] V fun e V' => ∃ v,e = .returned v/\WAns V.heap.size V' v W/\Below V.heap.size V V':=by
  obtain ⟨bS,bH,bF,bL,dS,dH,dF,dL,bT,dT,lt,e,A,hi,hts,hT,hTh⟩:=h
  have e1:=Value.agg.inj e
  simp only [Array.mk.injEq,List.cons.injEq,Value.slice.injEq,true_and,and_true] at e1
  obtain ⟨⟨rfl,rfl⟩,⟨rfl,rfl⟩,⟨rfl,rfl⟩,⟨rfl,rfl⟩,rfl,rfl⟩:=e1
  have hts' : lt.length = W.ts.length:=by rw [hts,List.length_map]
  have h:=c1k W.m lt aS aH aF aL cS cH cF cL aT cT V A hT (by have:=I.nt.1; omega) (by have:=I.nt.2; omega) (fun p hp => by
    have:=(I.held p.1 (by rw [hts]; exact List.mem_map_of_mem hp)).1
    omega)
  rw [<- hts,hts'] at h
  refine h.mono ?_
  intro e w' h
  exact h.wans A.s.max A.h.max A.f.max A.l.max
theorem do_len {W : Wd} {x : Pk} (h : doE W x = 0) : (doW W x).ts.length = W.ts.length/\(x.tick = false->0<=x.task/\x.task < W.ts.length):=by
  rcases b4k h with ⟨ht,-,e⟩ | ⟨ht,-,hr,-,-,e⟩ | ⟨ht,-,hr,-,-,-,-,-,e⟩
  · rw [e,ht]; exact ⟨rfl,fun h => by cases h⟩
  · rw [e]; exact ⟨by simp,fun _ => hr⟩
  · rw [e]; exact ⟨by simp,fun _ => hr⟩
theorem PRow.low {w w' : World} {lo : Nat} {ao : Option Addr} {cap : Nat} {l : List Pk} (r : PRow w ao cap l) (hb : Below lo w w') (hl : ∀ ad,ao = some ad->ad.block < lo) : PRow w' ao cap l:=by
  refine ⟨r.le,r.max,r.nil,?_⟩
  rcases r.at_ with h | ⟨b,o,h,hc⟩
  · exact .inl h
  · exact .inr ⟨b,o,h,fun i hi => a2w (hc i hi) hb (hl _ h)⟩
theorem b6l (x : Pk) (e : Int) (i : Nat) (beg : List Nat) : (litB x e i beg).length = beg.length:=by
  unfold litB
  repeat' split
  all_goals simp
theorem b6m (x : Pk) (e : Int) (i : Nat) (beg : List Nat) (W : Wd) (past : List Pst) : (litP x e i beg W past).length<=past.length + 1:=by
  unfold litP
  repeat' split
  all_goals simp
set_option maxHeartbeats 4000000 in
theorem b7l (lo : Nat) (w : World) (B1 B2 B3 B4 g : Nat) (aP : Option Addr) (cP : Nat) (l : List Pk) (v1 v4 : Value) (beg : List Nat) (Zx : List (Nat × Array Value)) (W0 : Wd) (v : Value)
    (hI : WInv W0) (hv : WAns 0 w v W0) (h : Cs lo 0 0 w B1 B2 B3 B4 g v1 (Vs aP l.length cP) v4 [] [] beg Zx) (hr : PRow w aP cP l) (hrl : 0 < l.length->∀ ad,aP = some ad->ad.block < lo) (hl : l.length<=300) (hbl : beg.length = W0.ts.length) (hlo : lo<=w.heap.size) :
    Calls Tryz.prog 79 #[v,Vs aP l.length cP,.func (.func 80) #[] #[.pointer (some ⟨B1,0,none⟩),.pointer (some ⟨B2,0,none⟩),.pointer (some ⟨B3,0,none⟩),.pointer (some ⟨B4,0,none⟩)]] w (TurnP lo w.heap.size w B1 B2 B3 B4 g (Vs aP l.length cP) (runR 0 ⟨W0,[],[],beg⟩ l) Zx):=by
  have m1:=hr.max
  have m2:=hr.le
  have HR : Hid (PRow w aP cP l):=hr
  have HRl : Hid (0 < l.length->∀ ad,aP = some ad->ad.block < lo):=hrl
  have HI0 : Hid (WInv W0):=hI
  have Hlo : Hid (lo<=w.heap.size):=hlo
  have Hl : Hid (l.length<=300):=hl
  obtain ⟨s0,hs0⟩ : ∃ s0 : Rs,s0 = ⟨W0,[],[],beg⟩:=⟨_,rfl⟩
  rw [<- hs0]
  obtain ⟨sE,hsE⟩ : ∃ sE : Rs,sE = runR 0 s0 l:=⟨_,rfl⟩
  rw [<- hsE]
  have HsE : Hid (runR 0 s0 (l.drop 0) = sE):=by show _ = _; rw [hsE]; rfl
  have Hs0 : Hid (s0 = ⟨W0,[],[],beg⟩):=hs0
  have HC0 : Hid (Cs lo 0 0 w B1 B2 B3 B4 g v1 (Vs aP l.length cP) v4 [] [] beg Zx):=h
  have HZx : Hid (∀ q ∈ Zx,q.1 < w.heap.size):=fun q hq => lt_of_block (h.z q hq)
  have HBl : Hid (beg.length = W0.ts.length):=hbl
  obtain ⟨aS,aH,aF,aL,cS,cH,cF,cL,aT,cT,lt,rfl,-⟩:=id hv
  obtain ⟨ox,hox⟩ : ∃ o : Obj,o = .cells #[Vs aS W0.m.slots.length cS,Vs aH W0.m.heads.length cH,Vs aF W0.m.free.length cF,Vs aL W0.m.a0b.length cL,Vi Qi W0.m.now,Vs aT W0.ts.length cT] 28:=⟨_,rfl⟩
  obtain ⟨oy,hoy⟩ : ∃ o : Obj,o = .cells #[Vs none 0 0,Vs none 0 0,Vs none 0 0,Vs none 0 0,Vi Qi 0,Vs none 0 0] 28:=⟨_,rfl⟩
  have b0 : Below w.heap.size w ((w.alloc ox).alloc oy):=below_alloc2 w ox oy
  have HX0 : Hid (((w.alloc ox).alloc oy).heap[w.heap.size]? = some ox):=by show _ = _; rw [Below.heap_alloc _ _ _ (by simp),heap_alloc_new]
  have HY0 : Hid (((w.alloc ox).alloc oy).heap[w.heap.size + 1]? = some oy):=by
    have:=heap_alloc_new (w.alloc ox) oy
    rwa [show (w.alloc ox).heap.size = w.heap.size + 1 by simp] at this
  have HV0 : Hid (WAns 0 ((w.alloc ox).alloc oy) (.agg #[Vs aS W0.m.slots.length cS,Vs aH W0.m.heads.length cH,Vs aF W0.m.free.length cF,Vs aL W0.m.a0b.length cL,Vi Qi W0.m.now,Vs aT W0.ts.length cT]) W0):=hv.below b0
  have Hb0 : Hid (Below w.heap.size w ((w.alloc ox).alloc oy)):=b0
  have hz0 : w.heap.size + 2 = ((w.alloc ox).alloc oy).heap.size:=by simp
  clear hI hv h hr hrl hbl hs0 hsE hlo b0
  go_enter Tryz.func79,Tryz.ntmps79
  have l6 : Hid (((w.alloc (.cells #[Vs aS W0.m.slots.length cS,Vs aH W0.m.heads.length cH,Vs aF W0.m.free.length cF,Vs aL W0.m.a0b.length cL,Vi Qi W0.m.now,Vs aT W0.ts.length cT] 28)).alloc (.cells #[Vs none 0 0,Vs none 0 0,Vs none 0 0,Vs none 0 0,Vi Qi 0,Vs none 0 0] 28)).rangeAt w.heap.size 0 [Vs aS W0.m.slots.length cS,Vs aH W0.m.heads.length cH,Vs aF W0.m.free.length cF,Vs aL W0.m.a0b.length cL,Vi Qi W0.m.now,Vs aT W0.ts.length cT]):=by subst hox hoy; exact a0q HX0.out rfl
  go_wp2_with (refine wl_6 rfl _ rfl rfl l6.out ?_)
  rw [<- hox,<- hoy]
  rw [<- hox,<- hoy] at l6
  clear l6
  generalize (w.alloc ox).alloc oy = W1 at *
  subst hox hoy
  refine (own_inv HI0.out HV0.out).mono ?_
  rintro e w2 ⟨v2,rfl,hv2,hb2⟩
  obtain ⟨aS2,aH2,aF2,aL2,cS2,cH2,cF2,cL2,aT2,cT2,lt2,rfl,-⟩:=id hv2
  have HX2 : Hid (w2.heap[w.heap.size]? = _):=(hb2.block _ (lt_of_block HX0.out)).trans HX0.out
  have HY2 : Hid (w2.heap[w.heap.size + 1]? = _):=(hb2.block _ (lt_of_block HY0.out)).trans HY0.out
  have t6 : Hid (w2.there w.heap.size 0 6):=a1j HX2.out (by simp)
  have hz2:=hb2.size
  have Hb2 : Hid (Below w.heap.size w w2):=Hb0.out.trans (hb2.mono Hb0.out.size)
  obtain ⟨W3,hW3⟩ : ∃ W3,W3 = w2.setCells w.heap.size 0 [Vs aS2 W0.m.slots.length cS2,Vs aH2 W0.m.heads.length cH2,Vs aF2 W0.m.free.length cF2,Vs aL2 W0.m.a0b.length cL2,Vi Qi W0.m.now,Vs aT2 W0.ts.length cT2]:=⟨_,rfl⟩
  have ho3 : ∀ k,k ≠ w.heap.size->W3.heap[k]? = w2.heap[k]?:=fun k hk => by rw [hW3]; exact a0f hk _ _ _
  have hX3 : W3.heap[w.heap.size]? = some (.cells #[Vs aS2 W0.m.slots.length cS2,Vs aH2 W0.m.heads.length cH2,Vs aF2 W0.m.free.length cF2,Vs aL2 W0.m.a0b.length cL2,Vi Qi W0.m.now,Vs aT2 W0.ts.length cT2] 28 (0,0)):=by rw [hW3]; exact a1c HX2.out rfl
  have hY3 : W3.heap[w.heap.size + 1]? = some (.cells #[Vs none 0 0,Vs none 0 0,Vs none 0 0,Vs none 0 0,Vi Qi 0,Vs none 0 0] 28 (0,0)):=(ho3 _ (by omega)).trans HY2.out
  have hsz3 : W3.heap.size = w2.heap.size:=by rw [hW3]; exact setCells_size _ _ _
  have HWi : Hid (WIn W1.heap.size w2.heap.size W3 (.agg #[Vs aS2 W0.m.slots.length cS2,Vs aH2 W0.m.heads.length cH2,Vs aF2 W0.m.free.length cF2,Vs aL2 W0.m.a0b.length cL2,Vi Qi W0.m.now,Vs aT2 W0.ts.length cT2]) W0):=hv2.wIn.same fun k h1 h2 => ho3 k (by omega)
  have Hb3 : Hid (Below lo w W3):=by
    have h1 : Below w.heap.size w W3:=by rw [hW3]; exact a0p Hb2.out (Nat.le_refl _)
    exact h1.mono Hlo.out
  have HC3 : Hid (Cs lo W1.heap.size w2.heap.size W3 B1 B2 B3 B4 g v1 (Vs aP l.length cP) v4 [] [] beg ((w.heap.size,#[Vs aS2 W0.m.slots.length cS2,Vs aH2 W0.m.heads.length cH2,Vs aF2 W0.m.free.length cF2,Vs aL2 W0.m.a0b.length cL2,Vi Qi W0.m.now,Vs aT2 W0.ts.length cT2]) :: (w.heap.size + 1,#[Vs none 0 0,Vs none 0 0,Vs none 0 0,Vs none 0 0,Vi Qi 0,Vs none 0 0]) :: Zx)):=by
    have h1 : Cs lo W1.heap.size w2.heap.size W1 B1 B2 B3 B4 g v1 (Vs aP l.length cP) v4 [] [] beg Zx:=(HC0.out.below Hb0.out).turn _
    have h2:=(h1.below hb2).off HX2.out ho3 (fun q hq => by have:=HZx.out q hq; omega)
    refine h2.more fun q hq => ?_
    simp only [List.mem_cons] at hq
    rcases hq with rfl | rfl | hq
    · exact hX3
    · exact hY3
    · exact h2.z q hq
  clear ho3 hX3 hY3 HX0 HY0 HV0 Hb0 HX2 HY2 hv2 hb2 Hb2 HC0
  go_wp2_with (refine ws_6 rfl _ _ rfl rfl rfl t6.out (by kernel_rfl) ?_; rw [<- hW3]; clear t6 hW3)
  have HZ3 : Hid (w.heap.size + 1 < W1.heap.size/\w2.heap.size<=W3.heap.size):=⟨by omega,by omega⟩
  go_loopw [15] (fun i wr => ∃ (k : Nat) (s : Rs) (a b : Nat) (v1 v4 : Value) (pl : List (Pst × Option Addr × Nat)) (aS aH aF aL : Option Addr) (cS cH cF cL : Nat) (aT : Option Addr) (cT : Nat),k<=l.length/\i = Vi Qi k/\Hid (runR k s (l.drop k) = sE)/\Hid (WInv s.w)/\Hid (Cs lo a b wr B1 B2 B3 B4 g v1 (Vs aP l.length cP) v4 s.said pl s.beg ((w.heap.size,#[Vs aS s.w.m.slots.length cS,Vs aH s.w.m.heads.length cH,Vs aF s.w.m.free.length cF,Vs aL s.w.m.a0b.length cL,Vi Qi s.w.m.now,Vs aT s.w.ts.length cT]) :: (w.heap.size + 1,#[Vs none 0 0,Vs none 0 0,Vs none 0 0,Vs none 0 0,Vi Qi 0,Vs none 0 0]) :: Zx))/\Hid (pl.map (·.1) = s.past)/\Hid (WIn a b wr (.agg #[Vs aS s.w.m.slots.length cS,Vs aH s.w.m.heads.length cH,Vs aF s.w.m.free.length cF,Vs aL s.w.m.a0b.length cL,Vi Qi s.w.m.now,Vs aT s.w.ts.length cT]) s.w)/\Hid (Below lo w wr)/\Hid (w.heap.size + 1 < a/\b<=wr.heap.size)/\Hid (s.said.length = k/\pl.length<=k/\s.beg.length = s.w.ts.length)) (fun i _ => l.length - (intOf i).toNat)
  case atStart => exact ⟨0,s0,W1.heap.size,w2.heap.size,v1,v4,[],aS2,aH2,aF2,aL2,cS2,cH2,cF2,cL2,aT2,cT2,Nat.zero_le _,rfl,HsE,by rw [Hs0.out]; exact HI0,by rw [Hs0.out]; exact HC3,by rw [Hs0.out]; exact rfl,by rw [Hs0.out]; exact HWi,Hb3,HZ3,by rw [Hs0.out]; exact ⟨rfl,Nat.le_refl _,HBl.out⟩⟩
  case round =>
    obtain ⟨k,s,a,b,v1,v4,pl,aS,aH,aF,aL,cS,cH,cF,cL,aT,cT,hk,rfl,HrE,HIw,HC,HPl,HWi',Hb,HZ,HN⟩:=hrel
    clear HC3 HWi Hb3 HZ3 HsE Hs0 HI0 HBl
    have HXb : Hid (wr.heap[w.heap.size]? = some (.cells #[Vs aS s.w.m.slots.length cS,Vs aH s.w.m.heads.length cH,Vs aF s.w.m.free.length cF,Vs aL s.w.m.a0b.length cL,Vi Qi s.w.m.now,Vs aT s.w.ts.length cT] 28 (0,0))):=HC.out.z _ (.head _)
    have HYb : Hid (wr.heap[w.heap.size + 1]? = some (.cells #[Vs none 0 0,Vs none 0 0,Vs none 0 0,Vs none 0 0,Vi Qi 0,Vs none 0 0] 28 (0,0))):=HC.out.z _ (.tail _ (.head _))
    by_cases hlt : k < l.length
    · have HRk : Hid (∀ ad,aP = some ad->ad.block < lo):=HRl.out (by omega)
      clear HRl
      rcases HR.out.at_ with h0 | ⟨bP,oP,rfl,hx⟩
      · omega
      have hbP : bP < lo:=HRk.out _ rfl
      have lX : Hid (wr.rangeAt bP (oP + k * 9) [Vi Qi (l[k]).task,.bool (l[k]).step,.bool (l[k]).tick,Vi Qi ((l[k]).c).kind,Vi Qi ((l[k]).c).a,Vi Qi ((l[k]).c).b,Vi Qi ((l[k]).c).time,Vi Qi ((l[k]).c).bk,Vi Qi ((l[k]).c).slot]):=a2w (hx k hlt) Hb.out hbP
      clear hx
      obtain ⟨x,hx⟩ : ∃ x,x = l[k]:=⟨_,rfl⟩
      rw [<- hx] at lX
      have Hx : Hid (x = l[k]):=hx
      clear hx
      have hzw : lo<=wr.heap.size:=by have:=Hlo.out; have:=Hb.out.size; omega
      obtain ⟨op,hop⟩ : ∃ o : Obj,o = .cells #[Vi Qi x.task,.bool x.step,.bool x.tick,Vi Qi x.c.kind,Vi Qi x.c.a,Vi Qi x.c.b,Vi Qi x.c.time,Vi Qi x.c.bk,Vi Qi x.c.slot] 34:=⟨_,rfl⟩
      have b2 : Below wr.heap.size wr (wr.alloc op):=a0c _ _
      have HX2 : Hid ((wr.alloc op).heap[w.heap.size]? = some (.cells #[Vs aS s.w.m.slots.length cS,Vs aH s.w.m.heads.length cH,Vs aF s.w.m.free.length cF,Vs aL s.w.m.a0b.length cL,Vi Qi s.w.m.now,Vs aT s.w.ts.length cT] 28 (0,0))):=(b2.block _ (lt_of_block HXb.out)).trans HXb.out
      have HP2 : Hid ((wr.alloc op).heap[wr.heap.size]? = some op):=heap_alloc_new _ _
      have HC2 : Hid (Cs lo a b (wr.alloc op) B1 B2 B3 B4 g v1 (Vs (some ⟨bP,oP,none⟩) l.length cP) v4 s.said pl s.beg ((w.heap.size,#[Vs aS s.w.m.slots.length cS,Vs aH s.w.m.heads.length cH,Vs aF s.w.m.free.length cF,Vs aL s.w.m.a0b.length cL,Vi Qi s.w.m.now,Vs aT s.w.ts.length cT]) :: (w.heap.size + 1,#[Vs none 0 0,Vs none 0 0,Vs none 0 0,Vs none 0 0,Vi Qi 0,Vs none 0 0]) :: Zx)):=HC.out.below b2
      have HW2 : Hid (WIn a b (wr.alloc op) (.agg #[Vs aS s.w.m.slots.length cS,Vs aH s.w.m.heads.length cH,Vs aF s.w.m.free.length cF,Vs aL s.w.m.a0b.length cL,Vi Qi s.w.m.now,Vs aT s.w.ts.length cT]) s.w):=HWi'.out.same fun j h1 h2 => b2.block j (by have:=HZ.out.2; omega)
      have Hb2 : Hid (Below lo w (wr.alloc op)):=Hb.out.alloc hzw op
      have HZ2 : Hid (w.heap.size + 1 < a/\b<=(wr.alloc op).heap.size/\w.heap.size + 1 < (wr.alloc op).heap.size):=⟨HZ.out.1,by have:=HZ.out.2; simp; omega,by have:=lt_of_block HYb.out; simp; omega⟩
      subst hop
      have l6 : Hid ((wr.alloc (.cells #[Vi Qi x.task,.bool x.step,.bool x.tick,Vi Qi x.c.kind,Vi Qi x.c.a,Vi Qi x.c.b,Vi Qi x.c.time,Vi Qi x.c.bk,Vi Qi x.c.slot] 34)).rangeAt w.heap.size 0 [Vs aS s.w.m.slots.length cS,Vs aH s.w.m.heads.length cH,Vs aF s.w.m.free.length cF,Vs aL s.w.m.a0b.length cL,Vi Qi s.w.m.now,Vs aT s.w.ts.length cT]):=a0q HX2.out rfl
      have lX2 : Hid ((wr.alloc (.cells #[Vi Qi x.task,.bool x.step,.bool x.tick,Vi Qi x.c.kind,Vi Qi x.c.a,Vi Qi x.c.b,Vi Qi x.c.time,Vi Qi x.c.bk,Vi Qi x.c.slot] 34)).rangeAt wr.heap.size 0 [Vi Qi x.task,.bool x.step,.bool x.tick,Vi Qi x.c.kind,Vi Qi x.c.a,Vi Qi x.c.b,Vi Qi x.c.time,Vi Qi x.c.bk,Vi Qi x.c.slot]):=a0q HP2.out rfl
      have hzz : wr.heap.size < (wr.alloc (.cells #[Vi Qi x.task,.bool x.step,.bool x.tick,Vi Qi x.c.kind,Vi Qi x.c.a,Vi Qi x.c.b,Vi Qi x.c.time,Vi Qi x.c.bk,Vi Qi x.c.slot] 34)).heap.size:=by simp
      clear HXb HYb b2 HC HWi' Hb HZ
      go_wp2_with (first | refine wl_X rfl _ rfl rfl lX.out ?_ | refine wl_6 rfl _ rfl rfl l6.out ?_ | refine wl_X rfl _ rfl rfl lX2.out ?_)
      clear l6 lX2 lX HP2
      generalize World.alloc wr _ = W2 at *
      refine (do_inv HIw.out (x:=x) (HW2.out W2 (fun _ _ _ => rfl))).mono ?_
      rintro e w3 ⟨v3,rfl,hv3,hb3⟩
      obtain ⟨E,hE⟩ : ∃ E,E = doE s.w x:=⟨_,rfl⟩
      rw [<- hE] at hv3 ⊢
      have HE : Hid (E = doE s.w x):=hE
      have Hst:=stepR_eq k s x
      rw [<- hE] at Hst
      have HrE' : Hid (runR (k + 1) (b0z k s x) (l.drop (k + 1)) = sE):=by
        have h1:=HrE.out
        rw [List.drop_eq_getElem_cons hlt,<- Hx.out] at h1
        exact h1
      have hz3:=hb3.size
      have Hb3 : Hid (Below lo w w3):=Hb2.out.trans (hb3.mono (by have:=Hb2.out.size; have:=Hlo.out; omega))
      have hl300:=Hl.out
      have hN1:=HN.out.1; have hN2:=HN.out.2.1; have hN3:=HN.out.2.2
      clear HrE hE
      by_cases hE0 : E = 0
      rotate_left
      · have h' : (E == 0) = false:=by simpa using hE0
        obtain ⟨_,_,_,_,_,_,_,_,_,_,_,rfl,-⟩:=hv3
        have H4 : Hid (∀ o : Obj,Cs lo a b (w3.alloc o) B1 B2 B3 B4 g v1 (Vs (some ⟨bP,oP,none⟩) l.length cP) v4 s.said pl s.beg ((w.heap.size,#[Vs aS s.w.m.slots.length cS,Vs aH s.w.m.heads.length cH,Vs aF s.w.m.free.length cF,Vs aL s.w.m.a0b.length cL,Vi Qi s.w.m.now,Vs aT s.w.ts.length cT]) :: (w.heap.size + 1,#[Vs none 0 0,Vs none 0 0,Vs none 0 0,Vs none 0 0,Vi Qi 0,Vs none 0 0]) :: Zx)/\WIn a b (w3.alloc o) (.agg #[Vs aS s.w.m.slots.length cS,Vs aH s.w.m.heads.length cH,Vs aF s.w.m.free.length cF,Vs aL s.w.m.a0b.length cL,Vi Qi s.w.m.now,Vs aT s.w.ts.length cT]) s.w/\Below lo w (w3.alloc o)/\(w3.alloc o).rangeAt w.heap.size 0 [Vs aS s.w.m.slots.length cS,Vs aH s.w.m.heads.length cH,Vs aF s.w.m.free.length cF,Vs aL s.w.m.a0b.length cL,Vi Qi s.w.m.now,Vs aT s.w.ts.length cT]/\b<=(w3.alloc o).heap.size/\PRow (w3.alloc o) (some ⟨bP,oP,none⟩) cP l):=fun o =>
          have b4 : Below W2.heap.size W2 (w3.alloc o):=hb3.alloc hb3.size o
          have b5 : Below lo w (w3.alloc o):=Hb3.out.alloc (by have:=Hb3.out.size; have:=Hlo.out; omega) o
          ⟨HC2.out.below b4,HW2.out.same fun j h1 h2 => b4.block j (by have:=HZ2.out.2.1; omega),b5,a0q ((b4.block _ (lt_of_block HX2.out)).trans HX2.out) rfl,by have:=HZ2.out.2.1; simp; omega,HR.out.low b5 HRk.out⟩
        rw [show b3d s.w x = s.w by unfold b3d; rw [<- HE.out,if_neg hE0]] at Hst
        have Hst' : Hid (b0z k s x = _):=Hst
        have HE0 : Hid (E ≠ 0):=hE0
        clear HC2 HW2 HX2 Hb2 Hb3 hb3 Hst hE0
        go_wp2_with (refine wl_6 rfl _ rfl rfl (H4.out _).2.2.2.1 ?_)
        refine (c0v lo a b _ B1 B2 B3 B4 g (some ⟨bP,oP,none⟩) cP l v1 v4 s.said pl s.beg _ s.w _ k E (H4.out _).1 (H4.out _).2.2.2.2.1 (H4.out _).2.2.2.2.2 HRk.out hlt (by omega) (by omega) (H4.out _).2.1 (fun h => (HE0.out h).elim) hN3).mono ?_
        rintro e w5 ⟨v15,v45,pl5,rfl,hC5,hpl5,hb5,hw5⟩
        rw [<- Hx.out] at hC5 hpl5
        have HRel : Hid (WIn a b w5 (.agg #[Vs aS s.w.m.slots.length cS,Vs aH s.w.m.heads.length cH,Vs aF s.w.m.free.length cF,Vs aL s.w.m.a0b.length cL,Vi Qi s.w.m.now,Vs aT s.w.ts.length cT]) s.w/\Below lo w w5/\b<=w5.heap.size):=⟨(H4.out _).2.1.same hw5,(H4.out _).2.2.1.trans hb5,by have:=(H4.out (.cells #[] 0)).2.2.2.2.1; have:=hb5.size; simp at *; omega⟩
        have HC5 : Hid (Cs lo a b w5 B1 B2 B3 B4 g v15 (Vs (some ⟨bP,oP,none⟩) l.length cP) v45 (s.said ++ [E]) pl5 (litB x E k s.beg) ((w.heap.size,#[Vs aS s.w.m.slots.length cS,Vs aH s.w.m.heads.length cH,Vs aF s.w.m.free.length cF,Vs aL s.w.m.a0b.length cL,Vi Qi s.w.m.now,Vs aT s.w.ts.length cT]) :: (w.heap.size + 1,#[Vs none 0 0,Vs none 0 0,Vs none 0 0,Vs none 0 0,Vi Qi 0,Vs none 0 0]) :: Zx)):=hC5
        have HP5 : Hid (pl5.map (·.1) = litP x E k s.beg s.w (pl.map (·.1))):=hpl5
        clear hC5 hpl5 hb5 hw5 H4
        go_wp2
        go_roundw
        case rel => exact ⟨k + 1,b0z k s x,a,b,v15,v45,pl5,aS,aH,aF,aL,cS,cH,cF,cL,aT,cT,by omega,by go_num,HrE',by rw [Hst'.out]; exact HIw,by rw [Hst'.out]; exact HC5,by rw [Hst'.out]; exact (HP5.out.trans (by rw [HPl.out])),by rw [Hst'.out]; exact HRel.out.1,HRel.out.2.1,⟨HZ2.out.1,HRel.out.2.2⟩,by rw [Hst'.out]; exact ⟨by simp [hN1],by have:=congrArg List.length HP5.out; rw [List.length_map] at this; have:=b6m x E k s.beg s.w (pl.map (·.1)); rw [List.length_map] at this; omega,(b6l x E k s.beg).trans hN3⟩⟩
        case measure => simp [intOf]; omega
      · have HdE : Hid (doE s.w x = 0):=HE.out.symm.trans hE0
        rw [if_pos hE0] at hv3
        obtain ⟨W',hW'⟩ : ∃ W',W' = doW s.w x:=⟨_,rfl⟩
        rw [<- hW'] at hv3
        rw [show b3d s.w x = W' by unfold b3d; rw [HdE.out,if_pos rfl,hW']] at Hst
        have HW' : Hid (W' = doW s.w x):=hW'
        have HIn : Hid (WInv W'):=by show WInv W'; rw [hW']; exact a5p HIw.out HdE.out
        have HLn : Hid (W'.ts.length = s.w.ts.length/\(x.tick = false->0<=x.task/\x.task < s.w.ts.length)):=by have:=do_len HdE.out; rw [<- hW'] at this; exact this
        have Hst' : Hid (b0z k s x = _):=Hst
        clear hW' Hst
        subst hE0
        obtain ⟨aS1,aH1,aF1,aL1,cS1,cH1,cF1,cL1,aT1,cT1,lt1,rfl,-⟩:=id hv3
        obtain ⟨oq,hoq⟩ : ∃ o : Obj,o = .cells #[Vs aS1 W'.m.slots.length cS1,Vs aH1 W'.m.heads.length cH1,Vs aF1 W'.m.free.length cF1,Vs aL1 W'.m.a0b.length cL1,Vi Qi W'.m.now,Vs aT1 W'.ts.length cT1] 28:=⟨_,rfl⟩
        have b4 : Below W2.heap.size W2 (w3.alloc oq):=hb3.alloc hb3.size oq
        have HY4 : Hid ((w3.alloc oq).heap[w3.heap.size]? = some oq):=heap_alloc_new _ _
        have hX4 : (w3.alloc oq).heap[w.heap.size]? = some (.cells #[Vs aS s.w.m.slots.length cS,Vs aH s.w.m.heads.length cH,Vs aF s.w.m.free.length cF,Vs aL s.w.m.a0b.length cL,Vi Qi s.w.m.now,Vs aT s.w.ts.length cT] 28 (0,0)):=(b4.block _ (lt_of_block HX2.out)).trans HX2.out
        have hC4 : Cs lo W2.heap.size w3.heap.size (w3.alloc oq) B1 B2 B3 B4 g v1 (Vs (some ⟨bP,oP,none⟩) l.length cP) v4 s.said pl s.beg ((w.heap.size,#[Vs aS s.w.m.slots.length cS,Vs aH s.w.m.heads.length cH,Vs aF s.w.m.free.length cF,Vs aL s.w.m.a0b.length cL,Vi Qi s.w.m.now,Vs aT s.w.ts.length cT]) :: (w.heap.size + 1,#[Vs none 0 0,Vs none 0 0,Vs none 0 0,Vs none 0 0,Vi Qi 0,Vs none 0 0]) :: Zx):=((HC2.out.turn w3.heap.size).below b4)
        have hW4 : WIn W2.heap.size w3.heap.size (w3.alloc oq) (.agg #[Vs aS1 W'.m.slots.length cS1,Vs aH1 W'.m.heads.length cH1,Vs aF1 W'.m.free.length cF1,Vs aL1 W'.m.a0b.length cL1,Vi Qi W'.m.now,Vs aT1 W'.ts.length cT1]) W':=hv3.wIn.same fun j h1 h2 => (a0c _ _).block j h2
        have Hb4 : Hid (Below lo w (w3.alloc oq)):=Hb3.out.alloc (by have:=Hb3.out.size; have:=Hlo.out; omega) oq
        have t8 : Hid ((w3.alloc oq).there w.heap.size 0 6):=a1j hX4 (by simp)
        obtain ⟨W5,hW5⟩ : ∃ W5,W5 = (w3.alloc oq).setCells w.heap.size 0 [Vs aS1 W'.m.slots.length cS1,Vs aH1 W'.m.heads.length cH1,Vs aF1 W'.m.free.length cF1,Vs aL1 W'.m.a0b.length cL1,Vi Qi W'.m.now,Vs aT1 W'.ts.length cT1]:=⟨_,rfl⟩
        have ho5 : ∀ j,j ≠ w.heap.size->W5.heap[j]? = (w3.alloc oq).heap[j]?:=fun j hj => by rw [hW5]; exact a0f hj _ _ _
        have hX5 : W5.heap[w.heap.size]? = some (.cells #[Vs aS1 W'.m.slots.length cS1,Vs aH1 W'.m.heads.length cH1,Vs aF1 W'.m.free.length cF1,Vs aL1 W'.m.a0b.length cL1,Vi Qi W'.m.now,Vs aT1 W'.ts.length cT1] 28 (0,0)):=by rw [hW5]; exact a1c hX4 rfl
        have hs5 : W5.heap.size = w3.heap.size + 1:=by rw [hW5,setCells_size]; simp
        have HC5 : Hid (Cs lo W2.heap.size w3.heap.size W5 B1 B2 B3 B4 g v1 (Vs (some ⟨bP,oP,none⟩) l.length cP) v4 s.said pl s.beg ((w.heap.size,#[Vs aS1 W'.m.slots.length cS1,Vs aH1 W'.m.heads.length cH1,Vs aF1 W'.m.free.length cF1,Vs aL1 W'.m.a0b.length cL1,Vi Qi W'.m.now,Vs aT1 W'.ts.length cT1]) :: (w.heap.size + 1,#[Vs none 0 0,Vs none 0 0,Vs none 0 0,Vs none 0 0,Vi Qi 0,Vs none 0 0]) :: Zx)):=by
          have hY4:=hC4.z (w.heap.size + 1,#[Vs none 0 0,Vs none 0 0,Vs none 0 0,Vs none 0 0,Vi Qi 0,Vs none 0 0]) (.tail _ (.head _))
          have h2:=(hC4.more (Z':=Zx) (fun q hq => hC4.z q (.tail _ (.tail _ hq)))).off hX4 ho5 (fun q hq => by have:=HZx.out q hq; omega)
          refine h2.more fun q hq => ?_
          simp only [List.mem_cons] at hq
          rcases hq with rfl | rfl | hq
          · exact hX5
          · exact (ho5 _ (by omega)).trans hY4
          · exact h2.z q hq
        have hzx:=HZ2.out.2.2
        have HW5 : Hid (WIn W2.heap.size w3.heap.size W5 (.agg #[Vs aS1 W'.m.slots.length cS1,Vs aH1 W'.m.heads.length cH1,Vs aF1 W'.m.free.length cF1,Vs aL1 W'.m.a0b.length cL1,Vi Qi W'.m.now,Vs aT1 W'.ts.length cT1]) W'):=hW4.same fun j h1 h2 => ho5 j (by omega)
        have Hb5 : Hid (Below lo w W5):=by show Below lo w W5; rw [hW5]; exact a0p Hb4.out Hlo.out
        have l9 : Hid (W5.rangeAt w.heap.size 0 [Vs aS1 W'.m.slots.length cS1,Vs aH1 W'.m.heads.length cH1,Vs aF1 W'.m.free.length cF1,Vs aL1 W'.m.a0b.length cL1,Vi Qi W'.m.now,Vs aT1 W'.ts.length cT1]):=a0q hX5 rfl
        have HR5 : Hid (PRow W5 (some ⟨bP,oP,none⟩) cP l):=HR.out.low Hb5.out HRk.out
        have HZ5 : Hid (w.heap.size + 1 < W2.heap.size/\w3.heap.size<=W5.heap.size):=⟨hzx,by omega⟩
        subst hoq
        have l7 : Hid ((w3.alloc (.cells #[Vs aS1 W'.m.slots.length cS1,Vs aH1 W'.m.heads.length cH1,Vs aF1 W'.m.free.length cF1,Vs aL1 W'.m.a0b.length cL1,Vi Qi W'.m.now,Vs aT1 W'.ts.length cT1] 28)).rangeAt w3.heap.size 0 [Vs aS1 W'.m.slots.length cS1,Vs aH1 W'.m.heads.length cH1,Vs aF1 W'.m.free.length cF1,Vs aL1 W'.m.a0b.length cL1,Vi Qi W'.m.now,Vs aT1 W'.ts.length cT1]):=a0q HY4.out rfl
        clear HC2 HW2 HX2 Hb2 Hb3 hb3 hX4 hC4 hW4 Hb4 ho5 hX5 HY4 hv3 b4
        go_wp2_with (first | refine wl_6 rfl _ rfl rfl l7.out ?_ | (refine ws_6 rfl _ _ rfl rfl rfl t8.out (by kernel_rfl) ?_; rw [<- hW5]; clear hW5 t8 l7) | refine wl_6 rfl _ rfl rfl l9.out ?_)
        refine (c0v lo W2.heap.size w3.heap.size W5 B1 B2 B3 B4 g (some ⟨bP,oP,none⟩) cP l v1 v4 s.said pl s.beg _ W' _ k 0 HC5.out HZ5.out.2 HR5.out HRk.out hlt (by omega) (by omega) HW5.out (fun _ h => by rw [<- Hx.out] at h ⊢; rw [HLn.out.1]; exact HLn.out.2 h) (hN3.trans HLn.out.1.symm)).mono ?_
        rintro e w6 ⟨v15,v45,pl5,rfl,hC5,hpl5,hb5,hw5⟩
        rw [<- Hx.out] at hC5 hpl5
        have HRel : Hid (WIn W2.heap.size w3.heap.size w6 (.agg #[Vs aS1 W'.m.slots.length cS1,Vs aH1 W'.m.heads.length cH1,Vs aF1 W'.m.free.length cF1,Vs aL1 W'.m.a0b.length cL1,Vi Qi W'.m.now,Vs aT1 W'.ts.length cT1]) W'/\Below lo w w6/\w3.heap.size<=w6.heap.size):=⟨HW5.out.same hw5,Hb5.out.trans hb5,by have:=HZ5.out.2; have:=hb5.size; omega⟩
        have HC6 : Hid (Cs lo W2.heap.size w3.heap.size w6 B1 B2 B3 B4 g v15 (Vs (some ⟨bP,oP,none⟩) l.length cP) v45 (s.said ++ [0]) pl5 (litB x 0 k s.beg) ((w.heap.size,#[Vs aS1 W'.m.slots.length cS1,Vs aH1 W'.m.heads.length cH1,Vs aF1 W'.m.free.length cF1,Vs aL1 W'.m.a0b.length cL1,Vi Qi W'.m.now,Vs aT1 W'.ts.length cT1]) :: (w.heap.size + 1,#[Vs none 0 0,Vs none 0 0,Vs none 0 0,Vs none 0 0,Vi Qi 0,Vs none 0 0]) :: Zx)):=hC5
        have HP5 : Hid (pl5.map (·.1) = litP x 0 k s.beg W' (pl.map (·.1))):=hpl5
        clear hC5 hpl5 hb5 hw5 HC5 HW5 Hb5 l9 HR5
        go_wp2
        go_roundw
        case rel => exact ⟨k + 1,b0z k s x,W2.heap.size,w3.heap.size,v15,v45,pl5,aS1,aH1,aF1,aL1,cS1,cH1,cF1,cL1,aT1,cT1,by omega,by go_num,HrE',by rw [Hst'.out]; exact HIn,by rw [Hst'.out]; exact HC6,by rw [Hst'.out]; exact (HP5.out.trans (by rw [HPl.out])),by rw [Hst'.out]; exact HRel.out.1,HRel.out.2.1,⟨HZ5.out.1,HRel.out.2.2⟩,by rw [Hst'.out]; exact ⟨by simp [hN1],by have:=congrArg List.length HP5.out; rw [List.length_map] at this; have:=b6m x 0 k s.beg W' (pl.map (·.1)); rw [List.length_map] at this; omega,(b6l x 0 k s.beg).trans (hN3.trans HLn.out.1.symm)⟩⟩
        case measure => simp [intOf]; omega
    · have hkE : k = l.length:=by omega
      have HsE : Hid (s = sE):=by
        have h1:=HrE.out
        rw [hkE,List.drop_length] at h1
        exact h1
      have l6 : Hid (wr.rangeAt w.heap.size 0 [Vs aS s.w.m.slots.length cS,Vs aH s.w.m.heads.length cH,Vs aF s.w.m.free.length cF,Vs aL s.w.m.a0b.length cL,Vi Qi s.w.m.now,Vs aT s.w.ts.length cT]):=a0q HXb.out rfl
      have t6 : Hid (wr.there (w.heap.size + 1) 0 6):=a1j HYb.out (by simp)
      obtain ⟨W5,hW5⟩ : ∃ W5,W5 = wr.setCells (w.heap.size + 1) 0 [Vs aS s.w.m.slots.length cS,Vs aH s.w.m.heads.length cH,Vs aF s.w.m.free.length cF,Vs aL s.w.m.a0b.length cL,Vi Qi s.w.m.now,Vs aT s.w.ts.length cT]:=⟨_,rfl⟩
      have ho5 : ∀ j,j ≠ w.heap.size + 1->W5.heap[j]? = wr.heap[j]?:=fun j hj => by rw [hW5]; exact a0f hj _ _ _
      have HX5 : Hid (W5.heap[w.heap.size + 1]? = some (.cells #[Vs aS s.w.m.slots.length cS,Vs aH s.w.m.heads.length cH,Vs aF s.w.m.free.length cF,Vs aL s.w.m.a0b.length cL,Vi Qi s.w.m.now,Vs aT s.w.ts.length cT] 28 (0,0))):=by show _ = _; rw [hW5]; exact a1c HYb.out rfl
      have HC5 : Hid (Cs lo 0 0 W5 B1 B2 B3 B4 g v1 (Vs aP l.length cP) v4 s.said pl s.beg Zx):=(HC.out.wide.more (Z':=Zx) (fun q hq => HC.out.z q (.tail _ (.tail _ hq)))).off HYb.out ho5 (fun q hq => by have:=HZx.out q hq; omega)
      have HW5 : Hid (WAns w.heap.size W5 (.agg #[Vs aS s.w.m.slots.length cS,Vs aH s.w.m.heads.length cH,Vs aF s.w.m.free.length cF,Vs aL s.w.m.a0b.length cL,Vi Qi s.w.m.now,Vs aT s.w.ts.length cT]) s.w):=(HWi'.out W5 fun j h1 h2 => ho5 j (by have:=HZ.out.1; omega)).mono (by have:=HZ.out.1; omega)
      have Hb5 : Hid (Below lo w W5):=by show Below lo w W5; rw [hW5]; exact a0p Hb.out (by have:=Hlo.out; omega)
      clear ho5 HC HWi' Hb HXb HYb HrE
      go_wp2_with (first | refine wl_6 rfl _ rfl rfl l6.out ?_ | (refine ws_6 rfl _ _ rfl rfl rfl t6.out (by kernel_rfl) ?_; rw [<- hW5]; clear hW5 t6 l6))
      exact bodyPost_ret (results_cell_row Tryz.results79 _ _ (w.heap.size + 1) 28 _ (0,0) _ rfl HX5.out Tryz.underlying28 rfl (by kernel_rfl)) rfl ⟨_,v1,v4,pl,rfl,by rw [<- HsE.out]; exact HC5.out,by rw [<- HsE.out]; exact HPl.out,by rw [<- HsE.out]; exact HW5.out,Hb5.out⟩
end
section
open Go.ChangeShapes Go.WideShapes Go.ChangeAt Go.RowKit Go.Joins Go.Deep Go.Maps
theorem b4f (n : Nat) : (madeCells (Value.int .i64 0).cells (n * 1)) = (encI ((List.replicate n 0).map Int.ofNat)).toArray:=by
  apply Array.ext'
  rw [Nat.mul_one]
  apply List.ext_getElem?
  intro j
  by_cases hj : j < n
  · simp [madeCells,encI,hj,Value.cells,Nat.mod_one]
  · rw [List.getElem?_eq_none (by simp [madeCells]; omega),List.getElem?_eq_none (by simp [encI]; omega)]
theorem a8h {W : World} {n B i : Nat} {cs : Array Value} {t : TypeId} {v : Value} (h : W.heap[B]? = some (.cells cs t (0,0))) (hv : cs[i]? = some v) : Below n W (W.setCell ⟨B,i,none⟩ v):=by
  have h1 : (W.setCell ⟨B,i,none⟩ v).heap[B]? = W.heap[B]?:=by
    rw [block_setCell (i:=i) h,h]
    congr 2
    apply Array.ext'
    have hi:=(Array.getElem?_eq_some_iff.1 hv).1
    have he:=(Array.getElem?_eq_some_iff.1 hv).2
    apply List.ext_getElem?
    intro j
    by_cases e : i = j
    · subst e; simp [hi,he]
    · simp [e]
  have h2 : Below 0 W (W.setCell ⟨B,i,none⟩ v):=(Below.refl 0 W).setCell (Nat.zero_le _) v
  refine ⟨h2.os,h2.tape,h2.output,h2.size,fun k _ => ?_⟩
  by_cases e : k = B
  · subst e; exact h1
  · exact Below.heap_setCell _ _ _ _ (by dsimp only; exact e)
theorem a6b {B : Nat} {t : TypeId} {cs : Array Value} {n : Nat} : ∀ (vs : List Value) (o : Nat) (W : World),W.heap[B]? = some (.cells cs t (0,0))->(∀ j,j < vs.length->cs[o + j]? = vs[j]?)->Below n W (W.setCells B o vs)
  | [],o,W,_,_ => Below.refl _ _
  | v :: vs,o,W,h,hv => by
    have h1 : ∀ m,Below m W (W.setCell ⟨B,o,none⟩ v):=fun m => a8h h (by have:=hv 0 (by simp); simpa using this)
    have h2 : (W.setCell ⟨B,o,none⟩ v).heap[B]? = some (.cells cs t (0,0)):=((h1 W.heap.size).block _ (lt_of_block h)).trans h
    have h3:=a6b (n:=n) vs (o + 1) (W.setCell ⟨B,o,none⟩ v) h2 (fun j hj => by have:=hv (j + 1) (by simp; omega); rw [show o + 1 + j = o + (j + 1) by omega]; simpa using this)
    exact (h1 n).trans h3
theorem b1b {B : Nat} {t : TypeId} {vs : List Value} {cs : Array Value} {n : Nat} {W : World} (h : W.heap[B]? = some (.cells cs t (0,0))) (e : cs = vs.toArray) : Below n W (W.setCells B 0 vs) :=
  a6b vs 0 W h fun j _ => by rw [e]; simp
def actR (x : Nat->Value) : Act:=⟨#[x 0,x 1,x 2,x 3,x 4,x 5,x 6,x 7,x 8,x 9,x 10,x 11,x 12,x 13,x 14,x 15,x 16,x 17,x 18,x 19,x 20,x 21,x 22,x 23,x 24,x 25,x 26,x 27,x 28,x 29,x 30],[]⟩
def RunP (w : World) (s : Rs) (e : Ending) (w' : World) : Prop :=
  ∃ v v1 v4 pl,e = .returned (.tuple #[v,v1,v4,Vi Qi 0])/\WAns w.heap.size w' v s.w/\w'.ownsRow w.heap.size 36 1 v1 s.said.length (encI s.said)/\w'.ownsRow w.heap.size 78 13 v4 pl.length (encP pl)/\(∀ q ∈ pl,KOwn w' w.heap.size q.2.1 q.2.2 q.1.keys)/\pl.map (·.1) = s.past/\Below w.heap.size w w'
set_option maxHeartbeats 4000000 in
theorem run_any {W : Wd} (I : WInv W) (v : Value) (aP : Option Addr) (cP : Nat) (l : List Pk) (w : World) (hv : WAns 0 w v W) (hr : PRow w aP cP l) (hl : l.length<=300) :
    Calls Tryz.prog 35 #[v,Vs aP l.length cP] w (RunP w (runR 0 (rs0 W) l)):=by
  have m1:=hr.max
  have hnt:=I.nt
  have hrl : 0 < l.length->∀ ad,aP = some ad->ad.block < w.heap.size:=fun h0 ad e => by
    rcases hr.at_ with h | ⟨b,o,rfl,hc⟩
    · omega
    · cases e
      exact a0m (hc 0 h0 0 _ rfl)
  have HI : Hid (WInv W):=I
  have HV : Hid (WAns 0 w v W):=hv
  have HR : Hid (PRow w aP cP l):=hr
  have HRl : Hid (0 < l.length->∀ ad,aP = some ad->ad.block < w.heap.size):=hrl
  obtain ⟨sE,hsE⟩ : ∃ sE : Rs,sE = runR 0 (rs0 W) l:=⟨_,rfl⟩
  rw [<- hsE]
  have HsE : Hid (sE = runR 0 (rs0 W) l):=hsE
  obtain ⟨aS,aH,aF,aL,cS,cH,cF,cL,aT,cT,lt,rfl,-⟩:=id hv
  obtain ⟨o0,ho0⟩ : ∃ o : Obj,o = .cells #[Vs aS W.m.slots.length cS,Vs aH W.m.heads.length cH,Vs aF W.m.free.length cF,Vs aL W.m.a0b.length cL,Vi Qi W.m.now,Vs aT W.ts.length cT] 28:=⟨_,rfl⟩
  obtain ⟨o1,ho1⟩ : ∃ o : Obj,o = .cells #[Vs aP l.length cP] 54:=⟨_,rfl⟩
  obtain ⟨o2,ho2⟩ : ∃ o : Obj,o = .cells #[Vs none 0 0,Vs none 0 0,Vs none 0 0,Vs none 0 0,Vi Qi 0,Vs none 0 0] 28:=⟨_,rfl⟩
  obtain ⟨o3,ho3⟩ : ∃ o : Obj,o = .cells #[Vs none 0 0] 68:=⟨_,rfl⟩
  obtain ⟨o4,ho4⟩ : ∃ o : Obj,o = .cells #[Vs none 0 0] 69:=⟨_,rfl⟩
  have HE0 : Hid (Env w (((((w.alloc o0).alloc o1).alloc o2).alloc o3).alloc o4) [(w.heap.size + 4,o4),(w.heap.size + 3,o3),(w.heap.size + 2,o2),(w.heap.size + 1,o1),(w.heap.size,o0)] []):=by
    have h:=(((((⟨Below.refl _ _,(fun p hp => by cases hp),(fun p hp => by cases hp)⟩ : Env w w [] []).alloc o0).alloc o1).alloc o2).alloc o3).alloc o4
    rw [show (w.alloc o0).heap.size = w.heap.size + 1 by simp,show ((w.alloc o0).alloc o1).heap.size = w.heap.size + 2 by simp,show (((w.alloc o0).alloc o1).alloc o2).heap.size = w.heap.size + 3 by simp,show ((((w.alloc o0).alloc o1).alloc o2).alloc o3).heap.size = w.heap.size + 4 by simp] at h
    exact h
  clear I hv hr hrl hsE
  go_enter Tryz.func35,Tryz.ntmps35
  have l6 : Hid ((((((w.alloc (.cells #[Vs aS W.m.slots.length cS,Vs aH W.m.heads.length cH,Vs aF W.m.free.length cF,Vs aL W.m.a0b.length cL,Vi Qi W.m.now,Vs aT W.ts.length cT] 28)).alloc (.cells #[Vs aP l.length cP] 54)).alloc (.cells #[Vs none 0 0,Vs none 0 0,Vs none 0 0,Vs none 0 0,Vi Qi 0,Vs none 0 0] 28)).alloc (.cells #[Vs none 0 0] 68)).alloc (.cells #[Vs none 0 0] 69)).rangeAt w.heap.size 0 [Vs aS W.m.slots.length cS,Vs aH W.m.heads.length cH,Vs aF W.m.free.length cF,Vs aL W.m.a0b.length cL,Vi Qi W.m.now,Vs aT W.ts.length cT]):=by subst ho0 ho1 ho2 ho3 ho4; exact a0q (HE0.out.box _ (.tail _ (.tail _ (.tail _ (.tail _ (.head _)))))) rfl
  go_wp2_with (refine wl_6 rfl _ rfl rfl l6.out ?_)
  rw [<- ho0,<- ho1,<- ho2,<- ho3,<- ho4]
  rw [<- ho0,<- ho1,<- ho2,<- ho3,<- ho4] at l6
  clear l6
  generalize ((((w.alloc o0).alloc o1).alloc o2).alloc o3).alloc o4 = W0 at *
  refine (b3p HI.out (HV.out.below HE0.out.bl)).mono ?_
  rintro e w1 ⟨rfl,hb1⟩
  have HE1 : Hid (Env w w1 [(w.heap.size + 4,o4),(w.heap.size + 3,o3),(w.heap.size + 2,o2),(w.heap.size + 1,o1),(w.heap.size,o0)] []):=HE0.out.below hb1
  clear HE0 hb1
  subst ho0 ho1 ho2 ho3 ho4
  obtain ⟨n,hn⟩ : ∃ n,n = W.ts.length:=⟨_,rfl⟩
  have Hn : Hid (n = W.ts.length):=hn
  obtain ⟨G,hG⟩ : ∃ G : Array Value,G = (encI ((List.replicate n 0).map Int.ofNat)).toArray:=⟨_,rfl⟩
  obtain ⟨i0,hi0,hz0,hz1,hz2⟩:=info_parts iI
  have hmk : ∀ V : World,(Instr.makeSlice 23 (Vi Qi (W.ts.length : Int)) (Vi Qi (W.ts.length : Int))).run Tryz.prog V = .ok (Vs (some ⟨V.heap.size,0,none⟩) W.ts.length W.ts.length) (V.alloc (.cells G 3)):=fun V => by
    have h:=run_make (P:=Tryz.prog) V 23 3 i0 _ Tryz.underlying23 hi0 hz0 .i64 .i64 (W.ts.length : Int) (W.ts.length : Int) (by omega) (Int.le_refl _) (by rw [hz2]; omega) (by omega)
    simp only [Int.toNat_natCast,hz1] at h
    rw [hG,hn,<- b4f]; exact h
  have HG : Hid (G = (encI ((List.replicate n 0).map Int.ofNat)).toArray):=hG
  have Hb0:=HE1.out.box (w.heap.size,_) (.tail _ (.tail _ (.tail _ (.tail _ (.head _)))))
  obtain ⟨q1,f1,s1⟩:=a0j (HE1.out.box (w.heap.size + 1,_) (.tail _ (.tail _ (.tail _ (.head _)))))
  obtain ⟨z0,z1,z2,z3,z4,z5,zs⟩:=a1w Hb0
  obtain ⟨oB,hoB⟩ : ∃ o : Obj,o = .cells #[Vs (some ⟨w1.heap.size,0,none⟩) W.ts.length W.ts.length] 23:=⟨_,rfl⟩
  have HE2 : Hid (Env w ((w1.alloc (.cells G 3)).alloc oB) [(w1.heap.size + 1,oB),(w1.heap.size,.cells G 3),(w.heap.size + 4,.cells #[Vs none 0 0] 69),(w.heap.size + 3,.cells #[Vs none 0 0] 68),(w.heap.size + 2,.cells #[Vs none 0 0,Vs none 0 0,Vs none 0 0,Vs none 0 0,Vi Qi 0,Vs none 0 0] 28),(w.heap.size + 1,.cells #[Vs aP l.length cP] 54),(w.heap.size,.cells #[Vs aS W.m.slots.length cS,Vs aH W.m.heads.length cH,Vs aF W.m.free.length cF,Vs aL W.m.a0b.length cL,Vi Qi W.m.now,Vs aT W.ts.length cT] 28)] []):=by
    have h:=(HE1.out.alloc (.cells G 3)).alloc oB
    rw [show (w1.alloc (.cells G 3)).heap.size = w1.heap.size + 1 by simp] at h
    exact h
  obtain ⟨W2,hW2⟩ : ∃ W2,W2 = (w1.alloc (.cells G 3)).alloc oB:=⟨_,rfl⟩
  rw [<- hW2] at HE2
  rw [hoB] at hW2 HE2
  have hz1' : w.heap.size<=w1.heap.size:=HE1.out.bl.size
  have l6 : Hid (W2.rangeAt w.heap.size 0 [Vs aS W.m.slots.length cS,Vs aH W.m.heads.length cH,Vs aF W.m.free.length cF,Vs aL W.m.a0b.length cL,Vi Qi W.m.now,Vs aT W.ts.length cT]):=a0q (HE2.out.box (w.heap.size,_) (.tail _ (.tail _ (.tail _ (.tail _ (.tail _ (.tail _ (.head _)))))))) rfl
  have q1':=(a0j (HE2.out.box (w.heap.size + 1,_) (.tail _ (.tail _ (.tail _ (.tail _ (.tail _ (.head _)))))))).1
  have HC2 : Hid (Cs w.heap.size 0 0 W2 (w.heap.size + 3) (w.heap.size + 1) (w1.heap.size + 1) (w.heap.size + 4) w1.heap.size (Vs none 0 0) (Vs aP l.length cP) (Vs none 0 0) [] [] (List.replicate W.ts.length 0) [(w.heap.size + 2,#[Vs none 0 0,Vs none 0 0,Vs none 0 0,Vs none 0 0,Vi Qi 0,Vs none 0 0])]):=by
    have hz : ∀ k,Out 0 0 k:=fun k hx => by have:=hx.2; omega
    refine ⟨HE2.out.box (w.heap.size + 3,_) (.tail _ (.tail _ (.tail _ (.head _)))),World.ownsRow_nil _ _ _ _,fun k _ => hz k,?_,?_,hz _,HE2.out.box (w.heap.size + 4,_) (.tail _ (.tail _ (.head _))),World.ownsRow_nil _ _ _ _,fun k _ => hz k,fun q hq => (by cases hq),⟨by omega,hz _⟩,⟨by omega,hz _⟩,⟨by omega,hz _⟩,by omega,HE2.out.box (w.heap.size + 1,_) (.tail _ (.tail _ (.tail _ (.tail _ (.tail _ (.head _)))))),⟨by omega,hz _⟩,?_⟩
    · rw [List.length_replicate]; exact HE2.out.box (w1.heap.size + 1,_) (.head _)
    · rw [<- Hn.out,<- HG.out]; exact HE2.out.box (w1.heap.size,_) (.tail _ (.head _))
    · intro q hq
      rw [List.mem_singleton] at hq
      subst hq
      exact HE2.out.box (w.heap.size + 2,_) (.tail _ (.tail _ (.tail _ (.tail _ (.head _)))))
  have Hb2 : Hid (Below w.heap.size w W2):=HE2.out.bl
  clear hoB hG hn hi0 hz0 hz1 hz2 HE1 HE2 Hb0 Hn HG
  have hl' : (l.length : Int)<=300:=by omega
  go_wp2_with (first | (rw [<- hW2]; refine wl_6 rfl _ rfl rfl l6.out ?_) | refine wl_6 rfl _ rfl rfl l6.out ?_)
  rw [<- hW2]
  clear hW2 l6 hmk z0 z1 z2 z3 z4 z5 zs q1 f1 s1 q1'
  refine (b7l w.heap.size W2 (w.heap.size + 3) (w.heap.size + 1) (w1.heap.size + 1) (w.heap.size + 4) w1.heap.size aP cP l _ _ (List.replicate W.ts.length 0) _ W _ HI.out (HV.out.below Hb2.out) HC2.out (HR.out.below Hb2.out) HRl.out hl (by simp) Hb2.out.size).mono ?_
  rintro e w3 ⟨v3,v1,v4,pl,rfl,hC3,hpl,hv3,hb3⟩
  rw [show runR 0 ⟨W,[],[],List.replicate W.ts.length 0⟩ l = sE from HsE.out.symm] at hC3 hpl hv3
  obtain ⟨aS3,aH3,aF3,aL3,cS3,cH3,cF3,cL3,aT3,cT3,lt3,rfl,-⟩:=id hv3
  have hO3:=hC3.z (w.heap.size + 2,#[Vs none 0 0,Vs none 0 0,Vs none 0 0,Vs none 0 0,Vi Qi 0,Vs none 0 0]) (.head _)
  have t6 : Hid (w3.there (w.heap.size + 2) 0 6):=a1j hO3 (by simp)
  have hz4 : w.heap.size + 4 < W2.heap.size:=lt_of_block HC2.out.p
  have b3 : Below w.heap.size w w3:=Hb2.out.trans hb3
  obtain ⟨W4,hW4⟩ : ∃ W4,W4 = w3.setCells (w.heap.size + 2) 0 [Vs aS3 sE.w.m.slots.length cS3,Vs aH3 sE.w.m.heads.length cH3,Vs aF3 sE.w.m.free.length cF3,Vs aL3 sE.w.m.a0b.length cL3,Vi Qi sE.w.m.now,Vs aT3 sE.w.ts.length cT3]:=⟨_,rfl⟩
  have ho4 : ∀ j,j ≠ w.heap.size + 2->W4.heap[j]? = w3.heap[j]?:=fun j hj => by rw [hW4]; exact a0f hj _ _ _
  have HX4 : Hid (W4.heap[w.heap.size + 2]? = some (.cells #[Vs aS3 sE.w.m.slots.length cS3,Vs aH3 sE.w.m.heads.length cH3,Vs aF3 sE.w.m.free.length cF3,Vs aL3 sE.w.m.a0b.length cL3,Vi Qi sE.w.m.now,Vs aT3 sE.w.ts.length cT3] 28 (0,0))):=by show _ = _; rw [hW4]; exact a1c hO3 rfl
  have HC4 : Hid (Cs w.heap.size 0 0 W4 (w.heap.size + 3) (w.heap.size + 1) (w1.heap.size + 1) (w.heap.size + 4) w1.heap.size v1 (Vs aP l.length cP) v4 sE.said pl sE.beg []):=(hC3.more (Z':=[]) (fun q hq => by cases hq)).off hO3 ho4 (fun q hq => by cases hq)
  obtain ⟨a1,k1,rfl⟩:=a2c HC4.out.so
  obtain ⟨a4,k4,rfl⟩:=a2c HC4.out.po
  have HV4 : Hid (WAns W2.heap.size W4 (.agg #[Vs aS3 sE.w.m.slots.length cS3,Vs aH3 sE.w.m.heads.length cH3,Vs aF3 sE.w.m.free.length cF3,Vs aL3 sE.w.m.a0b.length cL3,Vi Qi sE.w.m.now,Vs aT3 sE.w.ts.length cT3]) sE.w):=hv3.win fun k h1 h2 => ho4 k (by omega)
  have Hb4 : Hid (Below w.heap.size w W4):=by show Below w.heap.size w W4; rw [hW4]; exact a0p b3 (by omega)
  have HPl : Hid (pl.map (·.1) = sE.past):=hpl
  clear hC3 hpl hv3 hb3 b3 ho4 hO3 HC2 Hb2 HV HR
  go_wp2_with (refine ws_6 rfl _ _ rfl rfl rfl t6.out (by kernel_rfl) ?_; rw [<- hW4]; clear hW4 t6)
  rename_i K0 hK0
  refine b1g (by kernel_rfl) actR rfl [28,29,30,100,101,102,7] (by decide) rfl (by kernel_rfl) (fun i v _ => (i = 0->v = .agg #[Vs aS3 sE.w.m.slots.length cS3,Vs aH3 sE.w.m.heads.length cH3,Vs aF3 sE.w.m.free.length cF3,Vs aL3 sE.w.m.a0b.length cL3,Vi Qi sE.w.m.now,Vs aT3 sE.w.ts.length cT3])/\(i = 1->v = Vs a1 sE.said.length k1)/\(i = 2->v = Vs a4 pl.length k4)/\(i = 6->v = Vi Qi 0)) (fun i v w w' h _ => h) ?_ ?_
  · intro i hi x V hb hout hpre
    have hi' : i < 7:=hi
    clear hi
    have hXv:=(hb.block _ (lt_of_block HX4.out)).trans HX4.out
    have HCv:=HC4.out.below hb
    obtain ⟨y0,y1,y2,y3,y4,y5,ys⟩:=a1w hXv
    obtain ⟨c1,d1,-⟩:=a0j HCv.s
    obtain ⟨c4,d4,-⟩:=a0j HCv.p
    have x4 : x 4 = .pointer (some ⟨w.heap.size + 2,0,none⟩):=hout 4 (by decide)
    have x5 : x 5 = .pointer (some ⟨w.heap.size + 3,0,none⟩):=hout 5 (by decide)
    have x6 : x 6 = .pointer (some ⟨w.heap.size + 4,0,none⟩):=hout 6 (by decide)
    obtain rfl | rfl | rfl | rfl | rfl | rfl | rfl : i = 0\/i = 1\/i = 2\/i = 3\/i = 4\/i = 5\/i = 6:=by omega
    · exact a1k rfl (a0u rfl) (v:=.agg #[Vs aS3 sE.w.m.slots.length cS3,Vs aH3 sE.w.m.heads.length cH3,Vs aF3 sE.w.m.free.length cF3,Vs aL3 sE.w.m.a0b.length cL3,Vi Qi sE.w.m.now,Vs aT3 sE.w.ts.length cT3]) (w':=V) (by simp [execOp,go_sem,(show (actR x).tmps[4]?.getD undef = _ from x4),y0,y1,y2,y3,y4,y5]) ⟨_,rfl,⟨fun _ => rfl,(fun h => absurd h (by decide)),(fun h => absurd h (by decide)),(fun h => absurd h (by decide))⟩,Below.refl _ _⟩
    · exact a1k rfl (a0u rfl) (v:=Vs a1 sE.said.length k1) (w':=V) (by simp [execOp,go_sem,(show (actR x).tmps[5]?.getD undef = _ from x5),c1]) ⟨_,rfl,⟨(fun h => absurd h (by decide)),fun _ => rfl,(fun h => absurd h (by decide)),(fun h => absurd h (by decide))⟩,Below.refl _ _⟩
    · exact a1k rfl (a0u rfl) (v:=Vs a4 pl.length k4) (w':=V) (by simp [execOp,go_sem,(show (actR x).tmps[6]?.getD undef = _ from x6),c4]) ⟨_,rfl,⟨(fun h => absurd h (by decide)),(fun h => absurd h (by decide)),fun _ => rfl,(fun h => absurd h (by decide))⟩,Below.refl _ _⟩
    · have p0 : x 28 = _:=(hpre 0 (by kernel_rfl)).1 rfl
      have f0:=fun j => unfrozen_of_block hXv j
      exact a8d rfl (a0u rfl) (w':=V.setCells (w.heap.size + 2) 0 [Vs aS3 sE.w.m.slots.length cS3,Vs aH3 sE.w.m.heads.length cH3,Vs aF3 sE.w.m.free.length cF3,Vs aL3 sE.w.m.a0b.length cL3,Vi Qi sE.w.m.now,Vs aT3 sE.w.ts.length cT3]) (by simp [execOp,go_sem,World.setCells,(show (actR x).tmps[4]?.getD undef = _ from x4),(show (actR x).tmps[28]?.getD undef = _ from p0),y0,y1,y2,y3,y4,y5,f0]) ⟨undef,rfl,⟨(fun h => absurd h (by decide)),(fun h => absurd h (by decide)),(fun h => absurd h (by decide)),(fun h => absurd h (by decide))⟩,b1b hXv rfl⟩
    · have p0 : x 29 = _:=(hpre 1 (by kernel_rfl)).2.1 rfl
      exact a8d rfl (a0u rfl) (w':=V.setCell ⟨w.heap.size + 3,0,none⟩ (Vs a1 sE.said.length k1)) (by simp [execOp,go_sem,(show (actR x).tmps[5]?.getD undef = _ from x5),(show (actR x).tmps[29]?.getD undef = _ from p0),c1,d1]) ⟨undef,rfl,⟨(fun h => absurd h (by decide)),(fun h => absurd h (by decide)),(fun h => absurd h (by decide)),(fun h => absurd h (by decide))⟩,a8h HCv.s rfl⟩
    · have p0 : x 30 = _:=(hpre 2 (by kernel_rfl)).2.2.1 rfl
      exact a8d rfl (a0u rfl) (w':=V.setCell ⟨w.heap.size + 4,0,none⟩ (Vs a4 pl.length k4)) (by simp [execOp,go_sem,(show (actR x).tmps[6]?.getD undef = _ from x6),(show (actR x).tmps[30]?.getD undef = _ from p0),c4,d4]) ⟨undef,rfl,⟨(fun h => absurd h (by decide)),(fun h => absurd h (by decide)),(fun h => absurd h (by decide)),(fun h => absurd h (by decide))⟩,a8h HCv.p rfl⟩
    · exact a1k rfl (a0u rfl) (v:=Vi Qi 0) (w':=V) (by simp [execOp,go_sem]) ⟨_,rfl,⟨(fun h => absurd h (by decide)),(fun h => absurd h (by decide)),(fun h => absurd h (by decide)),fun _ => rfl⟩,Below.refl _ _⟩
  · intro x V hb hout hφ
    have p7 : x 7 = Vi Qi 0:=(hφ 6 (by decide)).2.2.2 rfl
    have x4 : x 4 = .pointer (some ⟨w.heap.size + 2,0,none⟩):=hout 4 (by decide)
    have x5 : x 5 = .pointer (some ⟨w.heap.size + 3,0,none⟩):=hout 5 (by decide)
    have x6 : x 6 = .pointer (some ⟨w.heap.size + 4,0,none⟩):=hout 6 (by decide)
    have hXv:=(hb.block _ (lt_of_block HX4.out)).trans HX4.out
    have HCv : Hid _:=HC4.out.below hb
    have HVv : Hid (WAns w.heap.size V (.agg #[Vs aS3 sE.w.m.slots.length cS3,Vs aH3 sE.w.m.heads.length cH3,Vs aF3 sE.w.m.free.length cF3,Vs aL3 sE.w.m.a0b.length cL3,Vi Qi sE.w.m.now,Vs aT3 sE.w.ts.length cT3]) sE.w):=(HV4.out.below hb).mono (by omega)
    have Hbv : Hid (Below w.heap.size w V):=Hb4.out.trans (hb.mono Hb4.out.size)
    obtain ⟨y0,y1,y2,y3,y4,y5,ys⟩:=a1w hXv
    obtain ⟨c1,d1,-⟩:=a0j HCv.out.s
    obtain ⟨c4,d4,-⟩:=a0j HCv.out.p
    refine hK0 _ _ ?_
    unfold actR
    rw [x4,x5,x6,p7]
    go_wp2
    refine bodyPost_ret (v:=.tuple #[.agg #[Vs aS3 sE.w.m.slots.length cS3,Vs aH3 sE.w.m.heads.length cH3,Vs aF3 sE.w.m.free.length cF3,Vs aL3 sE.w.m.a0b.length cL3,Vi Qi sE.w.m.now,Vs aT3 sE.w.ts.length cT3],Vs a1 sE.said.length k1,Vs a4 pl.length k4,Vi Qi 0]) (by simp [results,Tryz.results35,go_sem,y0,y1,y2,y3,y4,y5,c1,c4]) rfl ?_
    exact ⟨_,_,_,pl,rfl,HVv.out,HCv.out.so,HCv.out.po,fun q hq => (HCv.out.pk q hq).1,HPl.out,Hbv.out⟩
end
section
open Go.ChangeShapes Go.WideShapes Go.ChangeAt Go.RowKit Go.Joins Go.Deep
theorem b3n : Tryz.prog.cellsOf 34 = 9:=by kernel_rfl
theorem b9e : Tryz.prog.bytesOf 34 = 64:=by kernel_rfl
variable {H : Type} {enc : TypeId × Value->H} {w : World}
theorem trod_struct4 {P : Program} {base : Nat} {spare : Nat->Bool} {held : Bool} {t : TypeId} {f0 f1 f2 f3 : Field} {fuel : Nat} {cs : List Value} {x : DataW H × List MemPlace} (ht : P.underlying t = some (.struct #[f0,f1,f2,f3])) (h : DataW.trod enc P w base spare held fuel t cs = some x) :
    ∃ y0 y1 y2 y3 n,x.1 = .agg [y0.1,y1.1,y2.1,y3.1]/\cs.length = P.cellsOf t/\DataW.trod enc P w base spare held n f0.type ((cs.drop f0.offset).take (P.cellsOf f0.type)) = some y0 /\
      DataW.trod enc P w base spare held n f1.type ((cs.drop f1.offset).take (P.cellsOf f1.type)) = some y1/\DataW.trod enc P w base spare held n f2.type ((cs.drop f2.offset).take (P.cellsOf f2.type)) = some y2 /\
      DataW.trod enc P w base spare held n f3.type ((cs.drop f3.offset).take (P.cellsOf f3.type)) = some y3:=by
  obtain ⟨xs,n,_,rfl,hl,hlen,hf⟩:=DataW.trod_struct ht h
  match xs,hlen with
  | [y0,y1,y2,y3],_ => exact ⟨y0,y1,y2,y3,n,by simp,hl,by simpa using hf 0 f0 rfl,by simpa using hf 1 f1 rfl,by simpa using hf 2 f2 rfl,by simpa using hf 3 f3 rfl⟩
theorem nine {cs : List Value} (h : cs.length = 9) : ∃ c0 c1 c2 c3 c4 c5 c6 c7 c8,cs = [c0,c1,c2,c3,c4,c5,c6,c7,c8]:=by
  match cs,h with
  | [c0,c1,c2,c3,c4,c5,c6,c7,c8],_ => exact ⟨_,_,_,_,_,_,_,_,_,rfl⟩
theorem c1i {fuel : Nat} {cs : List Value} {x : DataW H × List MemPlace} (h : DataW.trod enc Tryz.prog w 0 (fun _ => true) true fuel 34 cs = some x) : ∃ p : Pk,cs = [.int .i64 p.task,.bool p.step,.bool p.tick,.int .i64 p.c.kind,.int .i64 p.c.a,.int .i64 p.c.b,.int .i64 p.c.time,.int .i64 p.c.bk,.int .i64 p.c.slot]:=by
  obtain ⟨y0,y1,y2,y3,n,_,hl,h0,h1,h2,h3⟩:=trod_struct4 Tryz.underlying34 h
  rw [b3n] at hl
  obtain ⟨c0,c1,c2,c3,c4,c5,c6,c7,c8,rfl⟩:=nine hl
  simp only [b3m,cells3,cells4] at h0 h1 h2 h3
  obtain ⟨a,e0,_⟩:=DataW.trod_int Tryz.underlying3 h0
  obtain ⟨s,e1,_⟩:=DataW.trod_bool Tryz.underlying4 h1
  obtain ⟨t,e2,_⟩:=DataW.trod_bool Tryz.underlying4 h2
  obtain ⟨c,ec⟩:=c2p h3
  simp at e0 e1 e2 ec
  obtain ⟨rfl,rfl,rfl,rfl,rfl,rfl⟩:=ec
  subst e0 e1 e2
  exact ⟨⟨a,s,t,c⟩,rfl⟩
theorem open_prow {fuel : Nat} {c : Value} {x : DataW H × List MemPlace} (h : DataW.trod enc Tryz.prog w 0 (fun _ => true) true fuel 54 [c] = some x) (hz : ∀ n ∈ x.1.weights Tryz.prog 54,n<=reachBytes) :
    ∃ l ao cap,c = .slice ao l.length cap/\PRow w ao cap l:=by
  rcases open_slice Tryz.underlying54 h with ⟨e,-⟩ | ⟨a,len,cap,m,n,D,Pl,e,hb,hl,hm,hmm,hx,hc⟩
  · simp at e
    exact ⟨[],none,0,e,Nat.zero_le _,by decide,fun _ => rfl,.inl rfl⟩
  · simp at e hmm
    subst e hmm
    rw [b3n] at hc
    obtain ⟨S,hS⟩:=@choose_lt Pk ⟨⟨0,false,false,⟨0,0,0,0,0,0⟩⟩⟩ len (fun i s => w.cells? 0 (a.add (i * 9)) 9 = some [.int .i64 s.task,.bool s.step,.bool s.tick,.int .i64 s.c.kind,.int .i64 s.c.a,.int .i64 s.c.b,.int .i64 s.c.time,.int .i64 s.c.bk,.int .i64 s.c.slot]) (fun i hi => by
      obtain ⟨cs',h1,h2⟩:=hc i (by omega)
      obtain ⟨s,rfl⟩:=c1i h2
      exact ⟨s,h1⟩)
    have hlt : ((List.range len).map S).length = len:=by simp
    refine ⟨(List.range len).map S,some a,m,by rw [hlt],by omega,?_,(fun h => by cases h),?_⟩
    · rw [hx] at hz
      have:=hz ((len + (m - len)) * 64) (by simp [DataW.weights,Tryz.underlying54,b9e])
      unfold reachBytes at this
      rw [hlt]
      omega
    · by_cases h0 : len = 0
      · left; omega
      · right
        obtain ⟨b,off,spot⟩:=a
        have hspot : spot = none:=by
          have:=(World.cells?_some (hS 0 (by omega))).2.2 0 (by omega)
          simpa [Addr.add] using World.cell?_spot this
        subst hspot
        refine ⟨b,off,rfl,fun i hi => ?_⟩
        have hi' : i < len:=by simpa using hi
        have e : ((List.range len).map S)[i] = S i:=by simp
        rw [e]
        intro q v hv
        have hq : q < 9:=by simpa using (List.getElem?_eq_some_iff.1 hv).1
        have:=(World.cells?_some (hS i hi')).2.2 q hq
        rw [Addr.add_lit,Addr.add_lit] at this
        rw [this]; exact hv
end
section
open Go.ChangeShapes Go.WideShapes Go.ChangeAt Go.RowKit Go.Joins Go.Deep
def b5q : Prop:=∀ w : World,Calls Tryz.prog 18 #[] w fun e w' => e = .returned (.bool true)/\Below w.heap.size w w'
theorem b3z : ∀ args W,(callFunc 27 args).run Tryz.prog W = .ok (.enter 27 args) W:=fun _ _ => by kernel_rfl
theorem b3a (hP : b5q) (hA : Asks 27) (many buckets tasks : Int) (l : List Pk) (aP : Option Addr) (cP : Nat) (w : World) (r : PRow w aP cP l) :
    Calls Tryz.prog 5 #[Vi Qi many,Vi Qi buckets,Vi Qi tasks,Vs aP l.length cP] w fun e w' => e = .returned (.bool true)/\Below w.heap.size w w':=by
  have HP : Hid (Calls Tryz.prog 18 #[] w fun e w' => e = .returned (.bool true)/\Below w.heap.size w w'):=hP w
  have HE : Hid (∀ W : World,Below w.heap.size w W->Calls Tryz.prog 26 #[Vi Qi many,Vi Qi buckets,Vi Qi tasks,Vs aP l.length cP,.func (.func 27) #[] #[]] W fun e w' => e = .returned (.bool true)/\Below W.heap.size W w'):=fun W hb => b2p _ b3z hA many buckets tasks l aP cP W (r.below hb)
  clear hP hA r
  go_enter Tryz.func5,Tryz.ntmps5
  go_wp2_with fail
  refine HP.out.mono ?_
  rintro e w1 ⟨rfl,hb1⟩
  have Hb1 : Hid (Below w.heap.size w w1):=hb1
  clear hb1
  go_wp2_with fail
  refine (HE.out w1 Hb1.out).mono ?_
  rintro e w2 ⟨rfl,hb2⟩
  have Hb2 : Hid (Below w.heap.size w w2):=Hb1.out.trans (hb2.mono Hb1.out.size)
  clear hb2
  go_wp2
  go_ret
  exact ⟨rfl,Hb2.out⟩
theorem b4z : ∀ args W,(callFunc 31 args).run Tryz.prog W = .ok (.enter 31 args) W:=fun _ _ => by kernel_rfl
theorem b4b (hP : b5q) (hA : Asks 31) (many buckets tasks : Int) (l : List Pk) (aP : Option Addr) (cP : Nat) (w : World) (r : PRow w aP cP l) :
    Calls Tryz.prog 6 #[Vi Qi many,Vi Qi buckets,Vi Qi tasks,Vs aP l.length cP] w fun e w' => e = .returned (.bool true)/\Below w.heap.size w w':=by
  have HP : Hid (Calls Tryz.prog 18 #[] w fun e w' => e = .returned (.bool true)/\Below w.heap.size w w'):=hP w
  have HE : Hid (∀ W : World,Below w.heap.size w W->Calls Tryz.prog 26 #[Vi Qi many,Vi Qi buckets,Vi Qi tasks,Vs aP l.length cP,.func (.func 31) #[] #[]] W fun e w' => e = .returned (.bool true)/\Below W.heap.size W w'):=fun W hb => b2p _ b4z hA many buckets tasks l aP cP W (r.below hb)
  clear hP hA r
  go_enter Tryz.func6,Tryz.ntmps6
  go_wp2_with fail
  refine HP.out.mono ?_
  rintro e w1 ⟨rfl,hb1⟩
  have Hb1 : Hid (Below w.heap.size w w1):=hb1
  clear hb1
  go_wp2_with fail
  refine (HE.out w1 Hb1.out).mono ?_
  rintro e w2 ⟨rfl,hb2⟩
  have Hb2 : Hid (Below w.heap.size w w2):=Hb1.out.trans (hb2.mono Hb1.out.size)
  clear hb2
  go_wp2
  go_ret
  exact ⟨rfl,Hb2.out⟩
theorem b3y : ∀ args W,(callFunc 32 args).run Tryz.prog W = .ok (.enter 32 args) W:=fun _ _ => by kernel_rfl
theorem b2z (hP : b5q) (hA : Asks 32) (many buckets tasks : Int) (l : List Pk) (aP : Option Addr) (cP : Nat) (w : World) (r : PRow w aP cP l) :
    Calls Tryz.prog 7 #[Vi Qi many,Vi Qi buckets,Vi Qi tasks,Vs aP l.length cP] w fun e w' => e = .returned (.bool true)/\Below w.heap.size w w':=by
  have HP : Hid (Calls Tryz.prog 18 #[] w fun e w' => e = .returned (.bool true)/\Below w.heap.size w w'):=hP w
  have HE : Hid (∀ W : World,Below w.heap.size w W->Calls Tryz.prog 26 #[Vi Qi many,Vi Qi buckets,Vi Qi tasks,Vs aP l.length cP,.func (.func 32) #[] #[]] W fun e w' => e = .returned (.bool true)/\Below W.heap.size W w'):=fun W hb => b2p _ b3y hA many buckets tasks l aP cP W (r.below hb)
  clear hP hA r
  go_enter Tryz.func7,Tryz.ntmps7
  go_wp2_with fail
  refine HP.out.mono ?_
  rintro e w1 ⟨rfl,hb1⟩
  have Hb1 : Hid (Below w.heap.size w w1):=hb1
  clear hb1
  go_wp2_with fail
  refine (HE.out w1 Hb1.out).mono ?_
  rintro e w2 ⟨rfl,hb2⟩
  have Hb2 : Hid (Below w.heap.size w w2):=Hb1.out.trans (hb2.mono Hb1.out.size)
  clear hb2
  go_wp2
  go_ret
  exact ⟨rfl,Hb2.out⟩
end
end Go.Proofs.YthhgoenomehobaaGreat.mm
