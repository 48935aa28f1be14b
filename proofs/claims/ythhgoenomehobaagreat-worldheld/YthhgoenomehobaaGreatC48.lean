/- Parts. -/
import Derived.Test.YthhgoenomehobaaGreatC45
import Derived.Test.YthhgoenomehobaaGreatC09
import Derived.Test.YthhgoenomehobaaGreatC02
namespace Go.Proofs.YthhgoenomehobaaGreat.mm
set_option maxRecDepth 100000
set_option linter.unusedVariables false
open Go.Value renaming int → Vi, slice → Vs
open Go.IntKind renaming i64 → Qi
section
open Go.ChangeShapes Go.WideShapes Go.ChangeAt Go.RowKit Go.Joins Go.Deep Go.Maps
theorem wIn_at {a : Nat} {w : World} {aS aH aF aL : Option Addr} {cS cH cF cL : Nat} {aT : Option Addr} {cT : Nat} {W : Wd} (h : WAns a w (.agg #[Vs aS W.m.slots.length cS,Vs aH W.m.heads.length cH,Vs aF W.m.free.length cF,Vs aL W.m.locks.length cL,Vi Qi W.m.now,Vs aT W.ts.length cT]) W) {t : Nat} (ht : t < W.ts.length) :
    ∃ lt : TkV,Hid (KRow w lt.aK lt.cK (W.ts.getD t idle).f.keys)/\W.ts.length<=cT/\∃ p q,aT = some ⟨p,q,none⟩/\Hid (w.rangeAt p (q + t * 16) ((W.ts.getD t idle).enc lt)):=by
  obtain ⟨bS,bH,bF,bL,dS,dH,dF,dL,bT,dT,lt,e,A,hi,hts,hT,hTh⟩:=h
  have e1:=Value.agg.inj e
  simp only [Array.mk.injEq,List.cons.injEq,Value.slice.injEq,true_and,and_true] at e1
  obtain ⟨-,-,-,-,rfl,rfl⟩:=e1
  have hl : W.ts.length = lt.length:=by rw [hts,List.length_map]
  have hg : W.ts.getD t idle = lt[t].1:=by rw [List.getD_eq_getElem?_getD,hts]; simp [show t < lt.length by omega]
  obtain ⟨p,q,rfl⟩:=hT.addr (by omega)
  refine ⟨lt[t].2,?_,by have:=hT.le; omega,p,q,rfl,?_⟩
  · rw [hg]; exact hT.keys _ (List.getElem_mem _)
  · rw [hg]; exact hT.range (by omega)
set_option maxHeartbeats 4000000 in
theorem lit_busy (lo a b : Nat) (w : World) (B1 B2 B3 B4 g : Nat) (aP : Option Addr) (cP : Nat) (l : List Pk) (v1 v4 : Value) (said : List Int) (pl : List (Pst × Option Addr × Nat)) (beg : List Nat) (Z : List (Nat × Array Value)) (W : Wd) (v : Value) (i : Nat) (E : Int)
    (h : Cs lo a b w B1 B2 B3 B4 g v1 (Vs aP l.length cP) v4 said pl beg Z) (hz : b<=w.heap.size) (hr : PRow w aP cP l) (hrl : ∀ ad,aP = some ad->ad.block < lo) (hi : i < l.length) (hs : said.length<=300) (hps : pl.length<=300) (hW : WIn a b w v W) (hE : E = 0) (hT : (l[i]'hi).tick = false) (hS : (l[i]'hi).step = true) (hk : 0<=(l[i]'hi).task/\(l[i]'hi).task < W.ts.length) (hB : (W.ts.getD (l[i]'hi).task.toNat idle).busy = true) :
    Calls Tryz.prog 80 #[Vi Qi i,v,Vi Qi E,.pointer (some ⟨B1,0,none⟩),.pointer (some ⟨B2,0,none⟩),.pointer (some ⟨B3,0,none⟩),.pointer (some ⟨B4,0,none⟩)] w (LitP lo a b w B1 B2 B3 B4 g (Vs aP l.length cP) (said ++ [E]) (pl.map (·.1)) beg Z):=by
  obtain ⟨aS,aH,aF,aL,cS,cH,cF,cL,aT,cT,lt,rfl,-⟩:=hW w (fun _ _ _ => rfl)
  subst hE
  have hk0 : (l[i]'hi).task.toNat < W.ts.length:=by omega
  obtain ⟨-,-,hcT,pT,qT,rfl,-⟩:=wIn_at (hW w fun _ _ _ => rfl) hk0
  clear hk0
  have b0 : Below w.heap.size w (w.alloc (.cells #[Vs aS W.m.slots.length cS,Vs aH W.m.heads.length cH,Vs aF W.m.free.length cF,Vs aL W.m.locks.length cL,Vi Qi W.m.now,Vs (some ⟨pT,qT,none⟩) W.ts.length cT] 28)):=a0c _ _
  have HC0 : Hid (Cs lo a b (w.alloc (.cells #[Vs aS W.m.slots.length cS,Vs aH W.m.heads.length cH,Vs aF W.m.free.length cF,Vs aL W.m.locks.length cL,Vi Qi W.m.now,Vs (some ⟨pT,qT,none⟩) W.ts.length cT] 28)) B1 B2 B3 B4 g v1 (Vs aP l.length cP) v4 said pl beg Z):=h.below b0
  have HY0 : Hid ((w.alloc (.cells #[Vs aS W.m.slots.length cS,Vs aH W.m.heads.length cH,Vs aF W.m.free.length cF,Vs aL W.m.locks.length cL,Vi Qi W.m.now,Vs (some ⟨pT,qT,none⟩) W.ts.length cT] 28)).heap[w.heap.size]? = some (.cells #[Vs aS W.m.slots.length cS,Vs aH W.m.heads.length cH,Vs aF W.m.free.length cF,Vs aL W.m.locks.length cL,Vi Qi W.m.now,Vs (some ⟨pT,qT,none⟩) W.ts.length cT] 28 (0,0))):=heap_alloc_new _ _
  have Hlz : Hid (lo<=w.heap.size):=by have:=h.o1.1; have:=lt_of_block h.s; show _<=_; omega
  have HW0 : Hid (WIn a b w (.agg #[Vs aS W.m.slots.length cS,Vs aH W.m.heads.length cH,Vs aF W.m.free.length cF,Vs aL W.m.locks.length cL,Vi Qi W.m.now,Vs (some ⟨pT,qT,none⟩) W.ts.length cT]) W):=hW
  have Hz : Hid (b<=w.heap.size):=hz
  rcases hr.at_ with hn | ⟨bP,oP,rfl,hx⟩
  · omega
  have hbl : bP < lo:=hrl _ rfl
  have Hrx : Hid (w.rangeAt bP (oP + i * 9) [Vi Qi (l[i]).task,.bool (l[i]).step,.bool (l[i]).tick,Vi Qi ((l[i]).c).kind,Vi Qi ((l[i]).c).a,Vi Qi ((l[i]).c).b,Vi Qi ((l[i]).c).time,Vi Qi ((l[i]).c).bk,Vi Qi ((l[i]).c).slot]):=hx i hi
  have hmax:=hr.max
  have hle:=hr.le
  obtain ⟨x,hxe⟩ : ∃ x,x = l[i]:=⟨_,rfl⟩
  have Hxe : Hid (x = l[i]):=hxe
  rw [<- hxe] at Hrx hT hS hk hB 
  obtain ⟨xt,xs,xk,xc⟩:=x
  dsimp only at Hrx hT hS hk hB 
  subst hT hS
  obtain ⟨tk,rfl⟩ : ∃ tk : Nat,xt = tk:=⟨xt.toNat,by omega⟩
  rw [Int.toNat_natCast] at hB 
  have hk2 : tk < W.ts.length:=by omega
  have l1w : B1 < w.heap.size:=lt_of_block h.s
  obtain ⟨t,hte⟩ : ∃ t,t = W.ts.getD tk idle:=⟨_,rfl⟩
  have Hte : Hid (t = W.ts.getD tk idle):=hte
  rw [<- hte] at hB 
  clear hte
  have HCell : Hid (∀ j u,[Value.int .i64 0][j]? = some u->(((w.alloc (.cells #[Vs aS W.m.slots.length cS,Vs aH W.m.heads.length cH,Vs aF W.m.free.length cF,Vs aL W.m.locks.length cL,Vi Qi W.m.now,Vs (some ⟨pT,qT,none⟩) W.ts.length cT] 28))).alloc (.cells #[Vi Qi 0] 36)).cell? ((⟨w.heap.size + 1,0,none⟩ : Addr).add j) = some u):=fun j u hu => by
    have h1:=cell_one_new (w.alloc (.cells #[Vs aS W.m.slots.length cS,Vs aH W.m.heads.length cH,Vs aF W.m.free.length cF,Vs aL W.m.locks.length cL,Vi Qi W.m.now,Vs (some ⟨pT,qT,none⟩) W.ts.length cT] 28)) (Vi Qi 0) 36 j u hu
    rwa [show (w.alloc (.cells #[Vs aS W.m.slots.length cS,Vs aH W.m.heads.length cH,Vs aF W.m.free.length cF,Vs aL W.m.locks.length cL,Vi Qi W.m.now,Vs (some ⟨pT,qT,none⟩) W.ts.length cT] 28)).heap.size = w.heap.size + 1 by simp] at h1
  obtain ⟨i0,hi0,hq0,hq1,hq2⟩:=info_parts iE
  obtain ⟨a1,k1,rfl⟩:=a1l HC0.out.so
  have HO : Hid ((w.alloc (.cells #[Vs aS W.m.slots.length cS,Vs aH W.m.heads.length cH,Vs aF W.m.free.length cF,Vs aL W.m.locks.length cL,Vi Qi W.m.now,Vs (some ⟨pT,qT,none⟩) W.ts.length cT] 28)).ownsRow lo 36 1 (Vs a1 said.length k1) said.length (encI said)):=HC0.out.so
  have HBw : Hid (∀ (w2 : World) (o : Obj) (v' : Value),((w.alloc (.cells #[Vs aS W.m.slots.length cS,Vs aH W.m.heads.length cH,Vs aF W.m.free.length cF,Vs aL W.m.locks.length cL,Vi Qi W.m.now,Vs (some ⟨pT,qT,none⟩) W.ts.length cT] 28)).alloc o).grownBy w2 (Value.slice a1 said.length k1).ownBlock->Below lo w (w2.setCell ⟨B1,0,none⟩ v')):=fun w2 o v' hg => a3g ((Below.mono (a0c w _) Hlz.out)) hg (fun k hk => (HO.out.lt k hk).1) (by have:=Hlz.out; simp; omega) HC0.out.o1.1
  obtain ⟨c1,f1,l1⟩:=a0h HC0.out.s
  clear h hW hr b0 hrl hx hz hxe
  go_enter Tryz.func80,Tryz.ntmps80
  go_wp2_with (first | (at_builtin; go_loud (refine wpList_append_own_at _ rfl (.tmp 12) (.tmp 14) 68 rfl lo 36 i0 (Vi Qi 0) 1 8 Tryz.underlying68 hi0 hq0 hq1 hq2 rfl (by decide) _ _ _ rfl (HO.out.alloc _) ⟨w.heap.size + 1,0,none⟩ 1 1 [Vi Qi 0] rfl rfl HCell.out (by intro u hu; simp at hu; subst hu; rfl) (by unfold maxLen; omega) (by omega) (by have:=Hlz.out; simp; omega) ?_; intro v2 w2 ho2 hg2 _ hloc2; obtain ⟨g2,cap2,rfl⟩:=ownsRow_form ho2 (by omega); have HC1 : Hid _:=Cs.say HC0.out (by have:=Hz.out; simp; omega) hg2 ho2 hloc2; obtain ⟨d1,e1,lB2⟩:=a0h (a1n HC0.out.s hg2 (own_ne HO.out HC0.out.s (by decide))); have HB1 : Hid _:=HBw.out _ _ (Vs (some ⟨g2,0,none⟩) (said.length + 1) cap2) hg2; obtain ⟨d2,e2,lB3⟩:=a0h HC1.out.1.x; have Hrx1 : Hid _:=a2g Hrx.out HB1.out hbl; have HZ2 : Hid _:=a1n HY0.out hg2 (own_ne HO.out HY0.out (by decide)); have hz2:=lt_of_block HZ2.out; have HZ3 : Hid ((World.heap (World.alloc (World.setCell w2 ⟨B1,0,none⟩ (Vs (some ⟨g2,0,none⟩) (said.length + 1) cap2)) (.cells #[Vi Qi tk,.bool true,.bool false,Vi Qi xc.kind,Vi Qi xc.a,Vi Qi xc.b,Vi Qi xc.time,Vi Qi xc.bk,Vi Qi xc.slot] 34)))[w.heap.size]? = some (.cells #[Vs aS W.m.slots.length cS,Vs aH W.m.heads.length cH,Vs aF W.m.free.length cF,Vs aL W.m.locks.length cL,Vi Qi W.m.now,Vs (some ⟨pT,qT,none⟩) W.ts.length cT] 28 (0,0))):=((a0c _ _).block _ (by first | (simp; done) | (simp; omega) | (have:=HB1.out.size; omega))).trans ((Below.heap_setCell _ _ _ _ (by dsimp only; omega)).trans HZ2.out); obtain ⟨z0,z1,z2,z3,z4,z5,zs⟩:=a2b HZ3.out; have HWn : Hid _:=HW0.out (World.alloc (World.setCell w2 ⟨B1,0,none⟩ (Vs (some ⟨g2,0,none⟩) (said.length + 1) cap2)) (.cells #[Vi Qi tk,.bool true,.bool false,Vi Qi xc.kind,Vi Qi xc.a,Vi Qi xc.b,Vi Qi xc.time,Vi Qi xc.bk,Vi Qi xc.slot] 34)) (fun k h1 h2 => ((a0c _ _).block k (by have:=HB1.out.size; have:=Hz.out; omega)).trans ((HC1.out.2 k h1 h2).trans ((a0c _ _).block k (by have:=Hz.out; omega)))); obtain ⟨lt2,hts2,ht2,p2,q2,hpT,Hrt⟩:=wIn_at HWn.out hk2; cases hpT; rw [<- Hte.out] at Hrt hts2; clear c1 f1 l1 ho2 hg2 hloc2 HC0 HO HBw)) | refine wl_X (x0:=⟨(tk : Int),true,false,xc⟩) rfl _ rfl rfl Hrx1.out ?_ | refine wl_T rfl _ rfl rfl Hrt.out ?_)
  refine bodyPost_end (results_none rfl _ _ _) rfl ?_
  have hq : ∀ o : Obj,Below lo w (World.alloc _ o):=fun o => HB1.out.alloc (by have:=HB1.out.size; have:=Hlz.out; omega) o
  have hq2 : ∀ o o2 : Obj,Below lo w (World.alloc (World.alloc _ o) o2):=fun o o2 => (hq o).alloc (by have:=(hq o).size; have:=Hlz.out; omega) o2
  exact ⟨_,v4,pl,rfl,(HC1.out.1.below (a0c _ _)).below (a0c _ _),rfl,hq2 _ _,fun k h1 h2 => ((a0c _ _).block k (by have:=(hq (.cells #[] 0)).size; have:=HB1.out.size; have:=Hz.out; simp; omega)).trans (((a0c _ _).block k (by have:=HB1.out.size; have:=Hz.out; omega)).trans ((HC1.out.2 k h1 h2).trans ((a0c _ _).block k (by have:=Hz.out; omega))))⟩
end
section
open Go Go.RowKit
def updR (x : Nat->Value) (d : Nat) (v : Value) : Nat->Value:=fun k => if k = d then v else x k
theorem a1b {P : Program} {ops : Array Oper} {Q : Exit->Act->World->Prop} {i : Nat} {o : Oper} {a : Act} {w w' : World} {v : Value} {K : Act->World->Prop} (hi : ops[i]? = some o) (hw : Region.wanted o (yielded ops a.tmps) = true)
    (hr : (execOp a.eval o).run P w = .ok (.value v) w') (h : K (a.put o.dst v) w') : wpOp P ops Q i K a w:=by
  refine wpOp_step hi fun K' hK => ?_
  rw [if_pos hw]
  unfold Oper.wp
  rw [hr]
  exact hK _ _ h
theorem wpOp_enter {P : Program} {ops : Array Oper} {Q : Exit->Act->World->Prop} {i : Nat} {o : Oper} {a : Act} {w : World} {f : Nat} {args : Array Value} {K : Act->World->Prop} (hi : ops[i]? = some o) (hw : Region.wanted o (yielded ops a.tmps) = true)
    (hr : (execOp a.eval o).run P w = .ok (.enter f args) w) (h : Calls P f args w fun e w' => ∃ v,e = .returned v/\K (a.put o.dst v) w') : wpOp P ops Q i K a w:=by
  refine wpOp_step hi fun K' hK => ?_
  rw [if_pos hw]
  unfold Oper.wp
  rw [hr]
  refine Calls.mono h ?_
  rintro e w' ⟨v,rfl,hv⟩
  exact hK _ _ hv
theorem a0n {o : Oper} {f : Nat->Option Bool} (h : o.guard = none) : Region.wanted o f = true:=by unfold Region.wanted; rw [h]
theorem all_listedR {md : Region.Mode} {ops : Array Oper} {listed : Array Bool} (hr : Region.ready md ops listed = []) (hs : listed.size = ops.size)
    (he : ((List.range ops.size).all fun i => ((ops[i]?).map fun o => o.after.all fun e => decide (e.on < i)).getD true) = true) : ∀ n i,i < n->i < ops.size->listed.getD i false = true
  | 0,i,h,_ => by omega
  | n + 1,i,h,hi => by
    cases hl : listed.getD i false with
    | true => rfl
    | false =>
      exfalso
      have hlt : listed.getD i true = false:=by
        simpa [Array.getD_eq_getD_getElem?,hs,hi] using hl
      have hm : i ∈ Region.ready md ops listed:=by
        unfold Region.ready
        rw [List.mem_filter]
        refine ⟨by simpa using hi,?_⟩
        rw [hlt]
        have h1:=List.all_eq_true.1 he i (by simpa using hi)
        have ho : ops[i]? = some ops[i]:=Array.getElem?_eq_getElem hi
        rw [ho] at h1 ⊢
        simp only [Option.map_some,Option.getD_some] at h1 ⊢
        simp only [Bool.not_false,Bool.true_and]
        rw [Array.all_eq_true'] at h1 ⊢
        intro e hm
        have h2:=h1 e hm
        have h3 : e.on < i:=by simpa using h2
        rw [all_listedR hr hs he n e.on (by omega) (by omega)]
        simp
      rw [hr] at hm
      cases hm
theorem all_listedB {md : Region.Mode} {ops : Array Oper} {listed : Array Bool} (hr : Region.ready md ops listed = []) (hs : listed.size = ops.size)
    (he : ((List.range ops.size).all fun i => ((ops[i]?).map fun o => o.after.all fun e => decide (e.on < i) || !Region.binds md e).getD true) = true) : ∀ n i,i < n->i < ops.size->listed.getD i false = true
  | 0,i,h,_ => by omega
  | n + 1,i,h,hi => by
    cases hl : listed.getD i false with
    | true => rfl
    | false =>
      exfalso
      have hlt : listed.getD i true = false:=by
        simpa [Array.getD_eq_getD_getElem?,hs,hi] using hl
      have hm : i ∈ Region.ready md ops listed:=by
        unfold Region.ready
        rw [List.mem_filter]
        refine ⟨by simpa using hi,?_⟩
        rw [hlt]
        have h1:=List.all_eq_true.1 he i (by simpa using hi)
        have ho : ops[i]? = some ops[i]:=Array.getElem?_eq_getElem hi
        rw [ho] at h1 ⊢
        simp only [Option.map_some,Option.getD_some] at h1 ⊢
        simp only [Bool.not_false,Bool.true_and]
        rw [Array.all_eq_true'] at h1 ⊢
        intro e hm
        have h2:=h1 e hm
        cases hb : Region.binds md e with
        | false => simp
        | true =>
          rw [hb] at h2
          have h3 : e.on < i:=by simpa using h2
          rw [all_listedB hr hs he n e.on (by omega) (by omega)]
          simp
      rw [hr] at hm
      cases hm
theorem wp_region_relB {P : Program} {ops : Array Oper} {Q : Exit->Act->World->Prop} {id : Nat} {a : Act} {w0 : World} (hm : P.follows .mixedOrders = true) (mk : (Nat->Value)->Act) (ha : a = mk fun k => a.tmps.getD k undef) (D : List Nat) (hN : D.Nodup) (hD : D.length = ops.size)
    (he : ((List.range ops.size).all fun i => ((ops[i]?).map fun o => o.after.all fun e => decide (e.on < i) || !Region.binds .any e).getD true) = true)
    (φ : Nat->Value->World->Prop) (mono : ∀ i v w w',φ i v w->Below w.heap.size w w'->φ i v w')
    (step : ∀ i,i < ops.size->∀ x W,Below w0.heap.size w0 W->(∀ d,d ∉ D->x d = a.tmps.getD d undef) ->
      (∀ k,(((ops[i]?).map fun o => o.after.any fun e => e.on == k && Region.binds .any e).getD false) = true->φ k (x (D.getD k 0)) W) ->
      wpOp P ops Q i (fun a' W' => ∃ v,a' = mk (updR x (D.getD i 0) v)/\φ i v W'/\Below W.heap.size W W') (mk x) W)
    (fin : ∀ x W,Below w0.heap.size w0 W->(∀ d,d ∉ D->x d = a.tmps.getD d undef)->(∀ i,i < ops.size->φ i (x (D.getD i 0)) W)->Q .normal (mk x) W) : (Code.region id ops true).wp P Q a w0:=by
  refine wp_region_inv hm (fun listed a' W => ∃ x,a' = mk x/\listed.size = ops.size/\Below w0.heap.size w0 W/\(∀ d,d ∉ D->x d = a.tmps.getD d undef)/\∀ i,i < ops.size->listed.getD i false = true->φ i (x (D.getD i 0)) W) ?_ ?_ ?_
  · refine ⟨_,ha,by simp,(Below.refl _ _).drew,fun d _ => rfl,fun i hi h => ?_⟩
    have : (Array.replicate ops.size false).getD i false = false:=by simp [Array.getD_eq_getD_getElem?,hi]
    rw [this] at h
    cases h
  · rintro listed a' W i hi ⟨x,rfl,hs,hb,hout,hφ⟩
    obtain ⟨h1,h2,o,ho,hpre⟩:=a4f hi
    refine wpOp_mono ?_ (step i h1 x W hb hout fun k hk => ?_)
    · rintro a'' W' ⟨v,rfl,hv,hb'⟩
      refine ⟨_,rfl,by simpa using hs,hb.trans (hb'.mono hb.size),fun d hd => ?_,fun j hj hl => ?_⟩
      · have : d ≠ D.getD i 0:=by
          rintro rfl
          refine hd ?_
          rw [List.getD_eq_getElem?_getD,List.getElem?_eq_getElem (by omega)]
          exact List.getElem_mem _
        simp only [updR,if_neg this]
        exact hout d hd
      · by_cases e : j = i
        · subst e
          simp only [updR,if_pos]
          exact hv
        · have hne : D.getD j 0 ≠ D.getD i 0:=by
            rw [List.getD_eq_getElem?_getD,List.getD_eq_getElem?_getD,List.getElem?_eq_getElem (by omega),List.getElem?_eq_getElem (by omega)]
            simp only [Option.getD_some]
            intro hh
            exact e ((List.getElem_inj hN).1 hh)
          simp only [updR,if_neg hne]
          have e' : ¬ i = j:=fun h => e h.symm
          have hl' : listed.getD j false = true:=by
            simpa [Array.getD_eq_getD_getElem?,e'] using hl
          exact mono _ _ _ _ (hφ j hj hl') hb'
    · rw [ho] at hk
      simp only [Option.map_some,Option.getD_some] at hk
      rw [Array.any_eq_true'] at hk
      obtain ⟨e,hem,hek⟩:=hk
      rw [Bool.and_eq_true] at hek
      have hon : e.on = k:=by simpa using hek.1
      have hl:=hpre e hem hek.2
      rw [hon] at hl
      refine hφ k ?_ hl
      refine Nat.lt_of_not_le fun hge => ?_
      have : listed.getD k false = false:=by simp [Array.getD_eq_getD_getElem?,hs,Nat.not_lt.2 hge]
      rw [this] at hl
      cases hl
  · rintro listed a' W hr ⟨x,rfl,hs,hb,hout,hφ⟩
    exact fin x W hb hout fun i hi => hφ i hi (all_listedB hr hs he (i + 1) i (by omega) hi)
theorem setL {listed : Array Bool} {i j : Nat} (h : i ≠ j) (b : Bool) : (listed.setIfInBounds i true).getD j b = listed.getD j b:=by
  simp [Array.getD_eq_getD_getElem?,h]
theorem setS {listed : Array Bool} {i : Nat} (h : i < listed.size) : (listed.setIfInBounds i true).getD i false = true:=by
  simp [Array.getD_eq_getD_getElem?,h]
theorem un_iff {listed : Array Bool} {i : Nat} (h : i < listed.size) : listed.getD i true = listed.getD i false:=by
  simp [Array.getD_eq_getD_getElem?,h]
theorem wp_region_rel2 {P : Program} {ops : Array Oper} {Q : Exit->Act->World->Prop} {id : Nat} {a : Act} {w0 : World} (hm : P.follows .mixedOrders = true) (mk : (Nat->Value)->Act) (ha : a = mk fun k => a.tmps.getD k undef) (D : List Nat) (hN : D.Nodup) (n : Nat) (hD : D.length = n) (hn : ops.size = n + 2)
    (hA : ((List.range ops.size).all fun i => ((ops[i]?).map fun o => o.after.all fun e => decide (e.on < i)).getD true) = true)
    (he : ((List.range n).all fun i => (List.range (n + 1)).any fun j => decide (i < j) && ((ops[j]?).map fun o => o.after.any fun e => e.on == i && Region.binds .any e).getD false) = true)
    (he2 : ((ops[n + 1]?).map fun o => o.after.any fun e => e.on == n && Region.binds .any e).getD false = true)
    (φ : Nat->Value->World->Prop) (mono : ∀ i v w w',φ i v w->Below w.heap.size w w'->φ i v w')
    (step : ∀ i,i < n->∀ x W,Below w0.heap.size w0 W->(∀ d,d ∉ D->x d = a.tmps.getD d undef) ->
      (∀ k,k < n->(((ops[i]?).map fun o => o.after.any fun e => e.on == k && Region.binds .any e).getD false) = true->φ k (x (D.getD k 0)) W) ->
      wpOp P ops Q i (fun a' W' => ∃ v,a' = mk (updR x (D.getD i 0) v)/\φ i v W'/\Below W.heap.size W W') (mk x) W)
    (fin : ∀ x W,Below w0.heap.size w0 W->(∀ d,d ∉ D->x d = a.tmps.getD d undef)->(∀ i,i < n->φ i (x (D.getD i 0)) W)->wpOp P ops Q n (fun a' W' => wpOp P ops Q (n + 1) (fun a'' W'' => Q .normal a'' W'') a' W') (mk x) W) : (Code.region id ops true).wp P Q a w0:=by
  -- whatever waits for what has not come up has not come up,and can't
  have wait : ∀ (listed : Array Bool),(∀ j o,ops[j]? = some o->listed.getD j false = true->∀ e ∈ o.after,Region.binds .any e = true->listed.getD e.on false = true)->∀ i j,j < n + 2->(((ops[j]?).map fun o => o.after.any fun e => e.on == i && Region.binds .any e).getD false) = true->listed.getD i false = false->listed.getD j false = false/\j ∉ Region.ready .any ops listed:=by
    intro listed hc i j hj h3 hl
    have ho : ops[j]? = some (ops[j]'(by omega)):=Array.getElem?_eq_getElem (by omega)
    rw [ho] at h3
    simp only [Option.map_some,Option.getD_some] at h3
    rw [Array.any_eq_true'] at h3
    obtain ⟨e,hem,hek⟩:=h3
    rw [Bool.and_eq_true] at hek
    have hon : e.on = i:=by simpa using hek.1
    refine ⟨?_,fun hr => ?_⟩
    · cases hlj : listed.getD j false with
      | false => rfl
      | true =>
        have:=hc j _ ho hlj e hem hek.2
        rw [hon,hl] at this
        cases this
    · obtain ⟨-,-,o,ho',hpre⟩:=a4f hr
      rw [ho] at ho'
      cases ho'
      have:=hpre e hem hek.2
      rw [hon,hl] at this
      cases this
  have wn : ∀ (listed : Array Bool),(∀ j o,ops[j]? = some o->listed.getD j false = true->∀ e ∈ o.after,Region.binds .any e = true->listed.getD e.on false = true)->∀ m i,n - i<=m->i < n->listed.getD i false = false->listed.getD n false = false/\n ∉ Region.ready .any ops listed:=by
    intro listed hc m
    induction m with
    | zero => intro i h1 h2; omega
    | succ m ih =>
      intro i h1 h2 hl
      have h3:=List.all_eq_true.1 he i (by simpa using h2)
      obtain ⟨j,hj,h4⟩:=List.any_eq_true.1 h3
      rw [Bool.and_eq_true] at h4
      have hij : i < j:=by simpa using h4.1
      have hjn : j < n + 1:=by simpa using hj
      have h5:=wait listed hc i j (by omega) h4.2 hl
      by_cases e : j = n
      · subst e; exact h5
      · exact ih j (by omega) (by omega) h5.1
  refine wp_region_inv hm (fun listed a' W => (listed.size = ops.size/\∀ j o,ops[j]? = some o->listed.getD j false = true->∀ e ∈ o.after,Region.binds .any e = true->listed.getD e.on false = true) /\
    ((listed.getD n false = false/\∃ x,a' = mk x/\Below w0.heap.size w0 W/\(∀ d,d ∉ D->x d = a.tmps.getD d undef)/\∀ i,i < n->listed.getD i false = true->φ i (x (D.getD i 0)) W) \/
     (listed.getD n false = true/\listed.getD (n + 1) false = false/\wpOp P ops Q (n + 1) (fun a'' W'' => Q .normal a'' W'') a' W) \/
     (listed.getD (n + 1) false = true/\Q .normal a' W))) ?_ ?_ ?_
  · have hz : ∀ i,(Array.replicate ops.size false).getD i false = false:=fun i => by
      by_cases hi : i < ops.size <;> simp [Array.getD_eq_getD_getElem?,hi]
    refine ⟨⟨by simp,fun j o _ hj => ?_⟩,.inl ⟨hz n,_,ha,(Below.refl _ _).drew,fun d _ => rfl,fun i hi h => ?_⟩⟩
    · rw [hz] at hj; cases hj
    · rw [hz] at h; cases h
  · rintro listed a' W i hi ⟨⟨hs,hc⟩,hJ⟩
    obtain ⟨h1,h2,o,ho,hpre⟩:=a4f hi
    rw [un_iff (by omega)] at h2
    have hc' : ∀ j o,ops[j]? = some o->(listed.setIfInBounds i true).getD j false = true->∀ e ∈ o.after,Region.binds .any e = true->(listed.setIfInBounds i true).getD e.on false = true:=by
      intro j o' hj hl e hem heb
      have h3 : listed.getD e.on false = true:=by
        by_cases ej : i = j
        · subst ej
          rw [ho] at hj
          cases hj
          exact hpre e hem heb
        · rw [setL ej] at hl
          exact hc j o' hj hl e hem heb
      by_cases ee : i = e.on
      · rw [<- ee]; exact setS (by omega)
      · rw [setL ee]; exact h3
    have hs' : (listed.setIfInBounds i true).size = ops.size:=by simpa using hs
    rcases hJ with ⟨hl,x,rfl,hb,hout,hφ⟩ | ⟨hl,hl1,hw⟩ | ⟨hl1,hw⟩
    · have hl1:=wait listed hc n (n + 1) (by omega) he2 hl
      by_cases hin : i < n
      · refine wpOp_mono ?_ (step i hin x W hb hout fun k hkn hk => ?_)
        · rintro a'' W' ⟨v,rfl,hv,hb'⟩
          refine ⟨⟨hs',hc'⟩,.inl ⟨by rw [setL (by omega)]; exact hl,_,rfl,hb.trans (hb'.mono hb.size),fun d hd => ?_,fun j hj hlj => ?_⟩⟩
          · have : d ≠ D.getD i 0:=by
              rintro rfl
              refine hd ?_
              rw [List.getD_eq_getElem?_getD,List.getElem?_eq_getElem (by omega)]
              exact List.getElem_mem _
            simp only [updR,if_neg this]
            exact hout d hd
          · by_cases e : j = i
            · subst e
              simp only [updR,if_pos]
              exact hv
            · have hne : D.getD j 0 ≠ D.getD i 0:=by
                rw [List.getD_eq_getElem?_getD,List.getD_eq_getElem?_getD,List.getElem?_eq_getElem (by omega),List.getElem?_eq_getElem (by omega)]
                simp only [Option.getD_some]
                intro hh
                exact e ((List.getElem_inj hN).1 hh)
              simp only [updR,if_neg hne]
              rw [setL (fun h => e h.symm)] at hlj
              exact mono _ _ _ _ (hφ j hj hlj) hb'
        · rw [ho] at hk
          simp only [Option.map_some,Option.getD_some] at hk
          rw [Array.any_eq_true'] at hk
          obtain ⟨e,hem,hek⟩:=hk
          rw [Bool.and_eq_true] at hek
          have hon : e.on = k:=by simpa using hek.1
          have hlk:=hpre e hem hek.2
          rw [hon] at hlk
          exact hφ k hkn hlk
      · by_cases hin2 : i = n
        · subst hin2
          have hall : ∀ k,k < i->listed.getD k false = true:=fun k hk => by
            cases hlk : listed.getD k false with
            | true => rfl
            | false => exact absurd hi (wn listed hc _ k (Nat.le_refl _) hk hlk).2
          refine wpOp_mono ?_ (fin x W hb hout fun k hk => hφ k hk (hall k hk))
          intro a'' W' hw
          exact ⟨⟨hs',hc'⟩,.inr (.inl ⟨setS (by omega),by rw [setL (by omega)]; exact hl1.1,hw⟩)⟩
        · have : i = n + 1:=by omega
          subst this
          exact absurd hi hl1.2
    · have : i = n + 1:=by
        by_cases hin : i < n
        · have:=(wn listed hc _ i (Nat.le_refl _) hin h2).1
          rw [hl] at this
          cases this
        · by_cases hin2 : i = n
          · subst hin2
            rw [hl] at h2
            cases h2
          · omega
      subst this
      refine wpOp_mono ?_ hw
      intro a'' W' hq
      exact ⟨⟨hs',hc'⟩,.inr (.inr ⟨setS (by omega),hq⟩)⟩
    · exfalso
      have hl : listed.getD n false = true:=by
        cases hl : listed.getD n false with
        | true => rfl
        | false =>
          have:=(wait listed hc n (n + 1) (by omega) he2 hl).1
          rw [hl1] at this
          cases this
      by_cases hin : i < n
      · have:=(wn listed hc _ i (Nat.le_refl _) hin h2).1
        rw [hl] at this
        cases this
      · by_cases hin2 : i = n
        · subst hin2
          rw [hl] at h2
          cases h2
        · have : i = n + 1:=by omega
          subst this
          rw [hl1] at h2
          cases h2
  · rintro listed a' W hr ⟨⟨hs,hc⟩,hJ⟩
    have all:=all_listedR hr hs hA
    rcases hJ with ⟨hl,-⟩ | ⟨-,hl,-⟩ | ⟨-,hw⟩
    · rw [all (n + 1) n (by omega) (by omega)] at hl; cases hl
    · rw [all (n + 2) (n + 1) (by omega) (by omega)] at hl; cases hl
    · exact hw
end
section
open Go.ChangeShapes Go.WideShapes Go.ChangeAt Go.RowKit Go.Joins Go.Deep Go.Maps
section
variable {lo a b : Nat} {w w' : World} {B1 B2 B3 B4 g : Nat} {v1 v2 v4 : Value} {said : List Int} {pl : List (Pst × Option Addr × Nat)} {beg : List Nat} {Z : List (Nat × Array Value)}
theorem Cs.tellW (h : Cs lo a b w B1 B2 B3 B4 g v1 v2 v4 said pl beg Z) (hz : b<=w.heap.size) {w1 : World} {v' : Value} {q : Pst × Option Addr × Nat} (hq : KOwn w lo q.2.1 q.2.2 q.1.keys) (hqx : ∀ ad,q.2.1 = some ad->Out a b ad.block) (hg : w.grownBy w1 v4.ownBlock) (ho : w1.ownsRow lo 78 13 v' (pl.length + 1) (encP pl ++ q.1.enc q.2.1 q.2.2)) (hl : v'.ownBlock = v4.ownBlock\/v'.ownBlock = some w.heap.size) :
    Cs lo a b (w1.setCell ⟨B4,0,none⟩ v') B1 B2 B3 B4 g v1 v2 v' said (pl ++ [q]) beg Z/\∀ k,a<=k->k < b->(w1.setCell ⟨B4,0,none⟩ v').heap[k]? = w.heap[k]?:=by
  have hk1 : ∀ k,k < w.heap.size->v4.ownBlock ≠ some k->w1.heap[k]? = w.heap[k]?:=fun k hk hn => by
    exact hg.block k hk (fun e => hn e.symm)
  have hk : ∀ k,k < w.heap.size->v4.ownBlock ≠ some k->k ≠ B4->(w1.setCell ⟨B4,0,none⟩ v').heap[k]? = w.heap[k]?:=fun k hk hn hB => by
    rw [Below.heap_setCell _ _ _ _ (by dsimp only; exact hB)]
    exact hk1 k hk hn
  have s1 : w1.heap[B4]? = some (.cells #[v4] 69 (0,0)):=(hk1 B4 (lt_of_block h.p) (own_ne h.po h.p (by decide))).trans h.p
  have nb : ∀ {X : Nat} {cs : Array Value} {t : TypeId},w.heap[X]? = some (.cells cs t (0,0))->t ≠ 78->t ≠ 69->(w1.setCell ⟨B4,0,none⟩ v').heap[X]? = some (.cells cs t (0,0)):=fun hX n1 n2 => by
    refine (hk _ (lt_of_block hX) (own_ne h.po hX (Ne.symm n1)) ?_).trans hX
    rintro rfl
    rw [h.p] at hX
    injection hX with hX
    injection hX with _ hX
    exact n2 hX.symm
  have nr : ∀ {lo' size n : Nat} {t : TypeId} {u : Value} {xs : List Value},w.ownsRow lo' t size u n xs->t ≠ 78->t ≠ 69->(w1.setCell ⟨B4,0,none⟩ v').ownsRow lo' t size u n xs:=fun hu n1 n2 => by
    refine a1g hu fun k hu' => hk k (hu.lt k hu').2 (fun hv => a3p h.po hu (Ne.symm n1) k hv hu') ?_
    rintro rfl
    exact own_ne hu h.p n2 hu'
  refine ⟨⟨nb h.s (by decide) (by decide),nr h.so (by decide) (by decide),h.sx,nb h.f (by decide) (by decide),nb h.fo (by decide) (by decide),h.fx,?_,?_,?_,?_,h.o1,h.o3,h.o4,h.og,nb h.x (by decide) (by decide),h.ox,fun q hq => nb (h.z q hq) (by decide) (by decide)⟩,?_⟩
  · have:=block_setCell (i:=0) s1 v'
    rw [this]; rfl
  · have:=set1_own (j:=0) (x:=v') ho (own_ne ho s1 (by decide))
    rwa [show encP pl ++ q.1.enc q.2.1 q.2.2 = encP (pl ++ [q]) by simp [encP],show pl.length + 1 = (pl ++ [q]).length by simp] at this
  · intro k hk'
    rcases hl with hl | hl
    · exact h.px k (hl ▸ hk')
    · rw [hl] at hk'
      injection hk' with hk'
      intro hx
      have:=hx.2
      omega
  · intro q' hq'
    rcases List.mem_append.1 hq' with hq' | hq'
    · exact ⟨⟨nr (h.pk q' hq').1.own (by decide) (by decide)⟩,(h.pk q' hq').2⟩
    · rw [List.mem_singleton] at hq'
      subst hq'
      exact ⟨⟨nr hq.own (by decide) (by decide)⟩,hqx⟩
  · intro k h1 h2
    exact hk k (by omega) (fun e => h.px k e ⟨h1,h2⟩) (fun e => h.o4.2 (e ▸ ⟨h1,h2⟩))
end
theorem wpOp_skip {P : Program} {ops : Array Oper} {Q : Exit->Act->World->Prop} {i : Nat} {o : Oper} {a : Act} {w w' : World} {K : Act->World->Prop} (hi : ops[i]? = some o) (hw : Region.wanted o (yielded ops a.tmps) = true)
    (hr : (execOp a.eval o).run P w = .ok .skip w') (h : K (a.put o.dst undef) w') : wpOp P ops Q i K a w:=by
  refine wpOp_step hi fun K' hK => ?_
  rw [if_pos hw]
  unfold Oper.wp
  rw [hr]
  exact hK _ _ h
def actL (x : Nat->Value) : Act:=⟨#[x 0,x 1,x 2,x 3,x 4,x 5,x 6,x 7,x 8,x 9,x 10,x 11,x 12,x 13,x 14,x 15,x 16,x 17,x 18,x 19,x 20,x 21,x 22,x 23,x 24,x 25,x 26,x 27,x 28,x 29,x 30,x 31,x 32,x 33,x 34,x 35,x 36,x 37,x 38,x 39,x 40,x 41,x 42,x 43,x 44,x 45,x 46,x 47,x 48,x 49,x 50,x 51,x 52,x 53,x 54,x 55,x 56],[]⟩
def valL (X B g tk i : Nat) (v4 gs : Value) (f : Fr) (aK : Option Addr) (cK : Nat) : Nat->Value
  | 0 => v4
  | 1 => .pointer (some ⟨X + 1,1,none⟩)
  | 2 => .agg #[Vi Qi f.c.kind,Vi Qi f.c.a,Vi Qi f.c.b,Vi Qi f.c.time,Vi Qi f.c.bk,Vi Qi f.c.slot,Vi Qi f.pl,Vi Qi f.cur,Vi Qi f.prev,Vi Qi f.slot,Vi Qi f.n,Vs aK f.keys.length cK,.bool f.done,Vi Qi f.e]
  | 3 => .pointer (some ⟨X,0,none⟩)
  | 4 => Vi Qi tk
  | 5 => gs
  | 6 => .pointer (some ⟨X,0,none⟩)
  | 7 => Vi Qi tk
  | 8 => .pointer (some ⟨g,tk,none⟩)
  | 9 => Vi Qi B
  | _ => Vi Qi i
def phiL (X B g tk i : Nat) (v4 gs : Value) (f : Fr) (aK : Option Addr) (cK base : Nat) (n : Nat) (v : Value) (W : World) : Prop :=
  (n ≠ 11->n ≠ 12->v = valL X B g tk i v4 gs f aK cK n) /\
  (n = 11->∃ a2 c2,v = .agg #[Vi Qi tk,Vi Qi f.c.kind,Vi Qi f.c.a,Vi Qi f.c.b,Vi Qi f.c.time,Vi Qi f.c.bk,Vi Qi f.c.slot,Vi Qi B,Vi Qi i,Vi Qi f.e,Vi Qi f.slot,Vi Qi f.n,Vs a2 f.keys.length c2]/\KOwn W base a2 c2 f.keys) /\
  (n = 12->∃ a2 c2 p,v = Vs (some ⟨p,0,none⟩) 1 1/\W.heap[p]? = some (.cells #[Vi Qi tk,Vi Qi f.c.kind,Vi Qi f.c.a,Vi Qi f.c.b,Vi Qi f.c.time,Vi Qi f.c.bk,Vi Qi f.c.slot,Vi Qi B,Vi Qi i,Vi Qi f.e,Vi Qi f.slot,Vi Qi f.n,Vs a2 f.keys.length c2] 78 (0,0))/\KOwn W base a2 c2 f.keys)
theorem phiL_mono {X B g tk i : Nat} {v4 gs : Value} {f : Fr} {aK : Option Addr} {cK base : Nat} : ∀ n v w w',phiL X B g tk i v4 gs f aK cK base n v w->Below w.heap.size w w'->phiL X B g tk i v4 gs f aK cK base n v w':=by
  rintro n v w w' ⟨h1,h2,h3⟩ hb
  refine ⟨h1,fun h => ?_,fun h => ?_⟩
  · obtain ⟨a,k,e,r⟩:=h2 h
    exact ⟨a,k,e,r.below hb⟩
  · obtain ⟨a,k,p,e,r,s⟩:=h3 h
    exact ⟨a,k,p,e,(hb.block _ (lt_of_block r)).trans r,s.below hb⟩
theorem a2p {X B g tk i : Nat} {v4 gs : Value} {f : Fr} {aK : Option Addr} {cK base n : Nat} {W : World} (h1 : n ≠ 11) (h2 : n ≠ 12) : phiL X B g tk i v4 gs f aK cK base n (valL X B g tk i v4 gs f aK cK n) W:=⟨fun _ _ => rfl,fun h => (h1 h).elim,fun h => (h2 h).elim⟩
theorem cells_past {w : World} {p : Nat} {vs : List Value} {t : TypeId} (h : w.heap[p]? = some (.cells vs.toArray t (0,0))) : ∀ j u,vs[j]? = some u->w.cell? ((⟨p,0,none⟩ : Addr).add j) = some u:=by
  intro j u hj
  rw [show ((⟨p,0,none⟩ : Addr).add j) = ⟨p,j,none⟩ by simp [Addr.add]; omega,cell_of_block h]
  simpa using hj
set_option maxHeartbeats 4000000 in
theorem lit_over (lo a b : Nat) (w : World) (B1 B2 B3 B4 g : Nat) (aP : Option Addr) (cP : Nat) (l : List Pk) (v1 v4 : Value) (said : List Int) (pl : List (Pst × Option Addr × Nat)) (beg : List Nat) (Z : List (Nat × Array Value)) (W : Wd) (v : Value) (i : Nat) (E : Int)
    (h : Cs lo a b w B1 B2 B3 B4 g v1 (Vs aP l.length cP) v4 said pl beg Z) (hz : b<=w.heap.size) (hr : PRow w aP cP l) (hrl : ∀ ad,aP = some ad->ad.block < lo) (hi : i < l.length) (hs : said.length<=300) (hps : pl.length<=300) (hW : WIn a b w v W) (hE : E = 0) (hT : (l[i]'hi).tick = false) (hS : (l[i]'hi).step = true) (hk : 0<=(l[i]'hi).task/\(l[i]'hi).task < W.ts.length) (hB : (W.ts.getD (l[i]'hi).task.toNat idle).busy = false) (hbl : beg.length = W.ts.length) :
    Calls Tryz.prog 80 #[Vi Qi i,v,Vi Qi E,.pointer (some ⟨B1,0,none⟩),.pointer (some ⟨B2,0,none⟩),.pointer (some ⟨B3,0,none⟩),.pointer (some ⟨B4,0,none⟩)] w (LitP lo a b w B1 B2 B3 B4 g (Vs aP l.length cP) (said ++ [E]) ((pl.map (·.1)) ++ [overP i (l[i]'hi) (beg.getD (l[i]'hi).task.toNat 0) (W.ts.getD (l[i]'hi).task.toNat idle)]) beg Z):=by
  obtain ⟨aS,aH,aF,aL,cS,cH,cF,cL,aT,cT,lt,rfl,-⟩:=hW w (fun _ _ _ => rfl)
  subst hE
  have hk0 : (l[i]'hi).task.toNat < W.ts.length:=by omega
  obtain ⟨-,-,hcT,pT,qT,rfl,-⟩:=wIn_at (hW w fun _ _ _ => rfl) hk0
  clear hk0
  have b0 : Below w.heap.size w (w.alloc (.cells #[Vs aS W.m.slots.length cS,Vs aH W.m.heads.length cH,Vs aF W.m.free.length cF,Vs aL W.m.locks.length cL,Vi Qi W.m.now,Vs (some ⟨pT,qT,none⟩) W.ts.length cT] 28)):=a0c _ _
  have HC0 : Hid (Cs lo a b (w.alloc (.cells #[Vs aS W.m.slots.length cS,Vs aH W.m.heads.length cH,Vs aF W.m.free.length cF,Vs aL W.m.locks.length cL,Vi Qi W.m.now,Vs (some ⟨pT,qT,none⟩) W.ts.length cT] 28)) B1 B2 B3 B4 g v1 (Vs aP l.length cP) v4 said pl beg Z):=h.below b0
  have HY0 : Hid ((w.alloc (.cells #[Vs aS W.m.slots.length cS,Vs aH W.m.heads.length cH,Vs aF W.m.free.length cF,Vs aL W.m.locks.length cL,Vi Qi W.m.now,Vs (some ⟨pT,qT,none⟩) W.ts.length cT] 28)).heap[w.heap.size]? = some (.cells #[Vs aS W.m.slots.length cS,Vs aH W.m.heads.length cH,Vs aF W.m.free.length cF,Vs aL W.m.locks.length cL,Vi Qi W.m.now,Vs (some ⟨pT,qT,none⟩) W.ts.length cT] 28 (0,0))):=heap_alloc_new _ _
  have Hlz : Hid (lo<=w.heap.size):=by have:=h.o1.1; have:=lt_of_block h.s; show _<=_; omega
  have HW0 : Hid (WIn a b w (.agg #[Vs aS W.m.slots.length cS,Vs aH W.m.heads.length cH,Vs aF W.m.free.length cF,Vs aL W.m.locks.length cL,Vi Qi W.m.now,Vs (some ⟨pT,qT,none⟩) W.ts.length cT]) W):=hW
  have Hz : Hid (b<=w.heap.size):=hz
  rcases hr.at_ with hn | ⟨bP,oP,rfl,hx⟩
  · omega
  have hbl : bP < lo:=hrl _ rfl
  have Hrx : Hid (w.rangeAt bP (oP + i * 9) [Vi Qi (l[i]).task,.bool (l[i]).step,.bool (l[i]).tick,Vi Qi ((l[i]).c).kind,Vi Qi ((l[i]).c).a,Vi Qi ((l[i]).c).b,Vi Qi ((l[i]).c).time,Vi Qi ((l[i]).c).bk,Vi Qi ((l[i]).c).slot]):=hx i hi
  have hmax:=hr.max
  have hle:=hr.le
  obtain ⟨x,hxe⟩ : ∃ x,x = l[i]:=⟨_,rfl⟩
  have Hxe : Hid (x = l[i]):=hxe
  rw [<- hxe] at Hrx hT hS hk hB ⊢
  obtain ⟨xt,xs,xk,xc⟩:=x
  dsimp only at Hrx hT hS hk hB ⊢
  subst hT hS
  obtain ⟨tk,rfl⟩ : ∃ tk : Nat,xt = tk:=⟨xt.toNat,by omega⟩
  rw [Int.toNat_natCast] at hB ⊢
  have hk2 : tk < W.ts.length:=by omega
  have l1w : B1 < w.heap.size:=lt_of_block h.s
  obtain ⟨t,hte⟩ : ∃ t,t = W.ts.getD tk idle:=⟨_,rfl⟩
  have Hte : Hid (t = W.ts.getD tk idle):=hte
  rw [<- hte] at hB ⊢
  clear hte
  have HCell : Hid (∀ j u,[Value.int .i64 0][j]? = some u->(((w.alloc (.cells #[Vs aS W.m.slots.length cS,Vs aH W.m.heads.length cH,Vs aF W.m.free.length cF,Vs aL W.m.locks.length cL,Vi Qi W.m.now,Vs (some ⟨pT,qT,none⟩) W.ts.length cT] 28))).alloc (.cells #[Vi Qi 0] 36)).cell? ((⟨w.heap.size + 1,0,none⟩ : Addr).add j) = some u):=fun j u hu => by
    have h1:=cell_one_new (w.alloc (.cells #[Vs aS W.m.slots.length cS,Vs aH W.m.heads.length cH,Vs aF W.m.free.length cF,Vs aL W.m.locks.length cL,Vi Qi W.m.now,Vs (some ⟨pT,qT,none⟩) W.ts.length cT] 28)) (Vi Qi 0) 36 j u hu
    rwa [show (w.alloc (.cells #[Vs aS W.m.slots.length cS,Vs aH W.m.heads.length cH,Vs aF W.m.free.length cF,Vs aL W.m.locks.length cL,Vi Qi W.m.now,Vs (some ⟨pT,qT,none⟩) W.ts.length cT] 28)).heap.size = w.heap.size + 1 by simp] at h1
  obtain ⟨i0,hi0,hq0,hq1,hq2⟩:=info_parts iE
  obtain ⟨a1,k1,rfl⟩:=a1l HC0.out.so
  have HO : Hid ((w.alloc (.cells #[Vs aS W.m.slots.length cS,Vs aH W.m.heads.length cH,Vs aF W.m.free.length cF,Vs aL W.m.locks.length cL,Vi Qi W.m.now,Vs (some ⟨pT,qT,none⟩) W.ts.length cT] 28)).ownsRow lo 36 1 (Vs a1 said.length k1) said.length (encI said)):=HC0.out.so
  have HBw : Hid (∀ (w2 : World) (o : Obj) (v' : Value),((w.alloc (.cells #[Vs aS W.m.slots.length cS,Vs aH W.m.heads.length cH,Vs aF W.m.free.length cF,Vs aL W.m.locks.length cL,Vi Qi W.m.now,Vs (some ⟨pT,qT,none⟩) W.ts.length cT] 28)).alloc o).grownBy w2 (Value.slice a1 said.length k1).ownBlock->Below lo w (w2.setCell ⟨B1,0,none⟩ v')):=fun w2 o v' hg => a3g ((Below.mono (a0c w _) Hlz.out)) hg (fun k hk => (HO.out.lt k hk).1) (by have:=Hlz.out; simp; omega) HC0.out.o1.1
  obtain ⟨c1,f1,l1⟩:=a0h HC0.out.s
  clear h hW hr b0 hrl hx hz hxe
  go_enter Tryz.func80,Tryz.ntmps80
  go_wp2_with (first | (at_builtin; go_loud (refine wpList_append_own_at _ rfl (.tmp 12) (.tmp 14) 68 rfl lo 36 i0 (Vi Qi 0) 1 8 Tryz.underlying68 hi0 hq0 hq1 hq2 rfl (by decide) _ _ _ rfl (HO.out.alloc _) ⟨w.heap.size + 1,0,none⟩ 1 1 [Vi Qi 0] rfl rfl HCell.out (by intro u hu; simp at hu; subst hu; rfl) (by unfold maxLen; omega) (by omega) (by have:=Hlz.out; simp; omega) ?_; intro v2 w2 ho2 hg2 _ hloc2; obtain ⟨g2,cap2,rfl⟩:=ownsRow_form ho2 (by omega); have HC1 : Hid _:=Cs.say HC0.out (by have:=Hz.out; simp; omega) hg2 ho2 hloc2; obtain ⟨d1,e1,lB2⟩:=a0h (a1n HC0.out.s hg2 (own_ne HO.out HC0.out.s (by decide))); have HB1 : Hid _:=HBw.out _ _ (Vs (some ⟨g2,0,none⟩) (said.length + 1) cap2) hg2; obtain ⟨d2,e2,lB3⟩:=a0h HC1.out.1.x; have Hrx1 : Hid _:=a2g Hrx.out HB1.out hbl; have HZ2 : Hid _:=a1n HY0.out hg2 (own_ne HO.out HY0.out (by decide)); have hz2:=lt_of_block HZ2.out; have HZ3 : Hid ((World.heap (World.alloc (World.setCell w2 ⟨B1,0,none⟩ (Vs (some ⟨g2,0,none⟩) (said.length + 1) cap2)) (.cells #[Vi Qi tk,.bool true,.bool false,Vi Qi xc.kind,Vi Qi xc.a,Vi Qi xc.b,Vi Qi xc.time,Vi Qi xc.bk,Vi Qi xc.slot] 34)))[w.heap.size]? = some (.cells #[Vs aS W.m.slots.length cS,Vs aH W.m.heads.length cH,Vs aF W.m.free.length cF,Vs aL W.m.locks.length cL,Vi Qi W.m.now,Vs (some ⟨pT,qT,none⟩) W.ts.length cT] 28 (0,0))):=((a0c _ _).block _ (by first | (simp; done) | (simp; omega) | (have:=HB1.out.size; omega))).trans ((Below.heap_setCell _ _ _ _ (by dsimp only; omega)).trans HZ2.out); obtain ⟨z0,z1,z2,z3,z4,z5,zs⟩:=a2b HZ3.out; have HWn : Hid _:=HW0.out (World.alloc (World.setCell w2 ⟨B1,0,none⟩ (Vs (some ⟨g2,0,none⟩) (said.length + 1) cap2)) (.cells #[Vi Qi tk,.bool true,.bool false,Vi Qi xc.kind,Vi Qi xc.a,Vi Qi xc.b,Vi Qi xc.time,Vi Qi xc.bk,Vi Qi xc.slot] 34)) (fun k h1 h2 => ((a0c _ _).block k (by have:=HB1.out.size; have:=Hz.out; omega)).trans ((HC1.out.2 k h1 h2).trans ((a0c _ _).block k (by have:=Hz.out; omega)))); obtain ⟨lt2,hts2,ht2,p2,q2,hpT,Hrt⟩:=wIn_at HWn.out hk2; cases hpT; rw [<- Hte.out] at Hrt hts2; clear c1 f1 l1 ho2 hg2 hloc2 HC0 HO HBw)) | refine wl_X (x0:=⟨(tk : Int),true,false,xc⟩) rfl _ rfl rfl Hrx1.out ?_ | refine wl_T rfl _ rfl rfl Hrt.out ?_)
  have HT0:=heap_alloc_new (World.alloc (World.setCell w2 ⟨B1,0,none⟩ (Vs (some ⟨g2,0,none⟩) (said.length + 1) cap2)) (.cells #[Vi Qi tk,.bool true,.bool false,Vi Qi xc.kind,Vi Qi xc.a,Vi Qi xc.b,Vi Qi xc.time,Vi Qi xc.bk,Vi Qi xc.slot] 34)) (.cells #[.bool false,Vi Qi t.f.c.kind,Vi Qi t.f.c.a,Vi Qi t.f.c.b,Vi Qi t.f.c.time,Vi Qi t.f.c.bk,Vi Qi t.f.c.slot,Vi Qi t.f.pl,Vi Qi t.f.cur,Vi Qi t.f.prev,Vi Qi t.f.slot,Vi Qi t.f.n,Vs lt2.aK t.f.keys.length lt2.cK,.bool t.f.done,Vi Qi t.f.e,Vs lt2.aH t.held.length lt2.cH] 49)
  rw [show (World.alloc (World.setCell w2 ⟨B1,0,none⟩ (Vs (some ⟨g2,0,none⟩) (said.length + 1) cap2)) (.cells #[Vi Qi tk,.bool true,.bool false,Vi Qi xc.kind,Vi Qi xc.a,Vi Qi xc.b,Vi Qi xc.time,Vi Qi xc.bk,Vi Qi xc.slot] 34)).heap.size = w2.heap.size + 1 by simp] at HT0
  have HT3 : Hid ((World.alloc (World.alloc (World.setCell w2 ⟨B1,0,none⟩ (Vs (some ⟨g2,0,none⟩) (said.length + 1) cap2)) (.cells #[Vi Qi tk,.bool true,.bool false,Vi Qi xc.kind,Vi Qi xc.a,Vi Qi xc.b,Vi Qi xc.time,Vi Qi xc.bk,Vi Qi xc.slot] 34)) (.cells #[.bool false,Vi Qi t.f.c.kind,Vi Qi t.f.c.a,Vi Qi t.f.c.b,Vi Qi t.f.c.time,Vi Qi t.f.c.bk,Vi Qi t.f.c.slot,Vi Qi t.f.pl,Vi Qi t.f.cur,Vi Qi t.f.prev,Vi Qi t.f.slot,Vi Qi t.f.n,Vs lt2.aK t.f.keys.length lt2.cK,.bool t.f.done,Vi Qi t.f.e,Vs lt2.aH t.held.length lt2.cH] 49)).heap[w2.heap.size + 1]? = some (.cells #[.bool false,Vi Qi t.f.c.kind,Vi Qi t.f.c.a,Vi Qi t.f.c.b,Vi Qi t.f.c.time,Vi Qi t.f.c.bk,Vi Qi t.f.c.slot,Vi Qi t.f.pl,Vi Qi t.f.cur,Vi Qi t.f.prev,Vi Qi t.f.slot,Vi Qi t.f.n,Vs lt2.aK t.f.keys.length lt2.cK,.bool t.f.done,Vi Qi t.f.e,Vs lt2.aH t.held.length lt2.cH] 49 (0,0))):=HT0
  have HX0:=heap_alloc_new (World.setCell w2 ⟨B1,0,none⟩ (Vs (some ⟨g2,0,none⟩) (said.length + 1) cap2)) (.cells #[Vi Qi tk,.bool true,.bool false,Vi Qi xc.kind,Vi Qi xc.a,Vi Qi xc.b,Vi Qi xc.time,Vi Qi xc.bk,Vi Qi xc.slot] 34)
  rw [show (World.setCell w2 ⟨B1,0,none⟩ (Vs (some ⟨g2,0,none⟩) (said.length + 1) cap2)).heap.size = w2.heap.size by simp] at HX0
  have HX3 : Hid ((World.alloc (World.alloc (World.setCell w2 ⟨B1,0,none⟩ (Vs (some ⟨g2,0,none⟩) (said.length + 1) cap2)) (.cells #[Vi Qi tk,.bool true,.bool false,Vi Qi xc.kind,Vi Qi xc.a,Vi Qi xc.b,Vi Qi xc.time,Vi Qi xc.bk,Vi Qi xc.slot] 34)) (.cells #[.bool false,Vi Qi t.f.c.kind,Vi Qi t.f.c.a,Vi Qi t.f.c.b,Vi Qi t.f.c.time,Vi Qi t.f.c.bk,Vi Qi t.f.c.slot,Vi Qi t.f.pl,Vi Qi t.f.cur,Vi Qi t.f.prev,Vi Qi t.f.slot,Vi Qi t.f.n,Vs lt2.aK t.f.keys.length lt2.cK,.bool t.f.done,Vi Qi t.f.e,Vs lt2.aH t.held.length lt2.cH] 49)).heap[w2.heap.size]? = some (.cells #[Vi Qi tk,.bool true,.bool false,Vi Qi xc.kind,Vi Qi xc.a,Vi Qi xc.b,Vi Qi xc.time,Vi Qi xc.bk,Vi Qi xc.slot] 34 (0,0))):=((a0c _ _).block _ (lt_of_block HX0)).trans HX0
  have HC3 : Hid (Cs lo a b (World.alloc (World.alloc (World.setCell w2 ⟨B1,0,none⟩ (Vs (some ⟨g2,0,none⟩) (said.length + 1) cap2)) (.cells #[Vi Qi tk,.bool true,.bool false,Vi Qi xc.kind,Vi Qi xc.a,Vi Qi xc.b,Vi Qi xc.time,Vi Qi xc.bk,Vi Qi xc.slot] 34)) (.cells #[.bool false,Vi Qi t.f.c.kind,Vi Qi t.f.c.a,Vi Qi t.f.c.b,Vi Qi t.f.c.time,Vi Qi t.f.c.bk,Vi Qi t.f.c.slot,Vi Qi t.f.pl,Vi Qi t.f.cur,Vi Qi t.f.prev,Vi Qi t.f.slot,Vi Qi t.f.n,Vs lt2.aK t.f.keys.length lt2.cK,.bool t.f.done,Vi Qi t.f.e,Vs lt2.aH t.held.length lt2.cH] 49)) B1 B2 B3 B4 g (Vs (some ⟨g2,0,none⟩) (said.length + 1) cap2) (Vs (some ⟨bP,oP,none⟩) l.length cP) v4 (said ++ [0]) pl beg Z):=(HC1.out.1.below (a0c _ _)).below (a0c _ _)
  have HK3 : Hid (KRow (World.alloc (World.alloc (World.setCell w2 ⟨B1,0,none⟩ (Vs (some ⟨g2,0,none⟩) (said.length + 1) cap2)) (.cells #[Vi Qi tk,.bool true,.bool false,Vi Qi xc.kind,Vi Qi xc.a,Vi Qi xc.b,Vi Qi xc.time,Vi Qi xc.bk,Vi Qi xc.slot] 34)) (.cells #[.bool false,Vi Qi t.f.c.kind,Vi Qi t.f.c.a,Vi Qi t.f.c.b,Vi Qi t.f.c.time,Vi Qi t.f.c.bk,Vi Qi t.f.c.slot,Vi Qi t.f.pl,Vi Qi t.f.cur,Vi Qi t.f.prev,Vi Qi t.f.slot,Vi Qi t.f.n,Vs lt2.aK t.f.keys.length lt2.cK,.bool t.f.done,Vi Qi t.f.e,Vs lt2.aH t.held.length lt2.cH] 49)) lt2.aK lt2.cK t.f.keys):=hts2.out.below (a0c _ _)
  have hq : ∀ o : Obj,Below lo w (World.alloc _ o):=fun o => HB1.out.alloc (by have:=HB1.out.size; have:=Hlz.out; omega) o
  have HBl3 : Hid (Below lo w (World.alloc (World.alloc (World.setCell w2 ⟨B1,0,none⟩ (Vs (some ⟨g2,0,none⟩) (said.length + 1) cap2)) (.cells #[Vi Qi tk,.bool true,.bool false,Vi Qi xc.kind,Vi Qi xc.a,Vi Qi xc.b,Vi Qi xc.time,Vi Qi xc.bk,Vi Qi xc.slot] 34)) (.cells #[.bool false,Vi Qi t.f.c.kind,Vi Qi t.f.c.a,Vi Qi t.f.c.b,Vi Qi t.f.c.time,Vi Qi t.f.c.bk,Vi Qi t.f.c.slot,Vi Qi t.f.pl,Vi Qi t.f.cur,Vi Qi t.f.prev,Vi Qi t.f.slot,Vi Qi t.f.n,Vs lt2.aK t.f.keys.length lt2.cK,.bool t.f.done,Vi Qi t.f.e,Vs lt2.aH t.held.length lt2.cH] 49))):=(hq _).alloc (by have:=(hq (.cells #[Vi Qi tk,.bool true,.bool false,Vi Qi xc.kind,Vi Qi xc.a,Vi Qi xc.b,Vi Qi xc.time,Vi Qi xc.bk,Vi Qi xc.slot] 34)).size; have:=Hlz.out; omega) _
  have Hwin3 : Hid (∀ k,a<=k->k < b->(World.alloc (World.alloc (World.setCell w2 ⟨B1,0,none⟩ (Vs (some ⟨g2,0,none⟩) (said.length + 1) cap2)) (.cells #[Vi Qi tk,.bool true,.bool false,Vi Qi xc.kind,Vi Qi xc.a,Vi Qi xc.b,Vi Qi xc.time,Vi Qi xc.bk,Vi Qi xc.slot] 34)) (.cells #[.bool false,Vi Qi t.f.c.kind,Vi Qi t.f.c.a,Vi Qi t.f.c.b,Vi Qi t.f.c.time,Vi Qi t.f.c.bk,Vi Qi t.f.c.slot,Vi Qi t.f.pl,Vi Qi t.f.cur,Vi Qi t.f.prev,Vi Qi t.f.slot,Vi Qi t.f.n,Vs lt2.aK t.f.keys.length lt2.cK,.bool t.f.done,Vi Qi t.f.e,Vs lt2.aH t.held.length lt2.cH] 49)).heap[k]? = w.heap[k]?):=fun k h1 h2 => ((a0c _ _).block k (by have:=HB1.out.size; have:=Hz.out; simp at *; omega)).trans (((a0c _ _).block k (by have:=HB1.out.size; have:=Hz.out; omega)).trans ((HC1.out.2 k h1 h2).trans ((a0c _ _).block k (by have:=Hz.out; omega))))
  clear HT0 HX0 hq HC1 Hrt Hrx1 HWn HZ3 HZ2 z0 z1 z2 z3 z4 z5 zs hts2 d1 e1 d2 e2 lB2 lB3 HB1
  clear HCell HY0 HW0
  generalize World.alloc (World.alloc (World.setCell w2 ⟨B1,0,none⟩ (Vs (some ⟨g2,0,none⟩) (said.length + 1) cap2)) (.cells #[Vi Qi tk,.bool true,.bool false,Vi Qi xc.kind,Vi Qi xc.a,Vi Qi xc.b,Vi Qi xc.time,Vi Qi xc.bk,Vi Qi xc.slot] 34)) (.cells #[.bool false,Vi Qi t.f.c.kind,Vi Qi t.f.c.a,Vi Qi t.f.c.b,Vi Qi t.f.c.time,Vi Qi t.f.c.bk,Vi Qi t.f.c.slot,Vi Qi t.f.pl,Vi Qi t.f.cur,Vi Qi t.f.prev,Vi Qi t.f.slot,Vi Qi t.f.n,Vs lt2.aK t.f.keys.length lt2.cK,.bool t.f.done,Vi Qi t.f.e,Vs lt2.aH t.held.length lt2.cH] 49) = W3 at *
  generalize w2.heap.size = X at *
  obtain ⟨t0,t1,t2,t3,t4,t5,t6,t7,t8,t9,t10,t11,t12,t13,t14,t15,ts⟩:=taskf HT3.out
  have x0 : W3.cell? ⟨X,0,none⟩ = some (Vi Qi tk):=by rw [cell_of_block HX3.out]; rfl
  have d3:=(a0h HC3.out.f).1
  have d4:=(a0h HC3.out.p).1
  have htb : tk < beg.length:=by omega
  have d5:=Cs.fat HC3.out htb
  obtain ⟨a4,k4,rfl⟩:=a1l HC3.out.po
  obtain ⟨j0,hj0,hr0,hr1,hr2⟩:=info_parts iP
  have HTo : Hid (∀ V : World,Below W3.heap.size W3 V->Calls Tryz.prog 81 #[.agg #[Vi Qi t.f.c.kind,Vi Qi t.f.c.a,Vi Qi t.f.c.b,Vi Qi t.f.c.time,Vi Qi t.f.c.bk,Vi Qi t.f.c.slot,Vi Qi t.f.pl,Vi Qi t.f.cur,Vi Qi t.f.prev,Vi Qi t.f.slot,Vi Qi t.f.n,Vs lt2.aK t.f.keys.length lt2.cK,.bool t.f.done,Vi Qi t.f.e],Vi Qi tk,Vi Qi (beg.getD tk 0 : Nat),Vi Qi i] V (ToldP V t.f tk (beg.getD tk 0 : Nat) i)):=fun V hb => told_any t.f tk _ _ lt2.aK lt2.cK V (HK3.out.below hb)
  clear t15 t0
  refine wp_region_rel2 (by kernel_rfl) actL rfl [43,44,45,46,47,48,49,50,51,52,53,54,55] (by decide) 13 rfl rfl (by kernel_rfl) (by kernel_rfl) (by kernel_rfl) (phiL X (beg.getD tk 0) g tk i (Vs a4 pl.length k4) (Vs (some ⟨g,0,none⟩) beg.length beg.length) t.f lt2.aK lt2.cK W3.heap.size) phiL_mono ?_ ?_
  · intro k hk' x W hb hout hpre
    have HCw:=HC3.out.below hb
    have HTw:=(hb.block _ (lt_of_block HT3.out)).trans HT3.out
    have HXw:=(hb.block _ (lt_of_block HX3.out)).trans HX3.out
    have x0' : x 0 = Vi Qi i:=hout 0 (by decide)
    have x5 : x 5 = .pointer (some ⟨B3,0,none⟩):=hout 5 (by decide)
    have x6 : x 6 = .pointer (some ⟨B4,0,none⟩):=hout 6 (by decide)
    have x10 : x 10 = .pointer (some ⟨X,0,none⟩):=hout 10 (by decide)
    have x11 : x 11 = .pointer (some ⟨X + 1,0,none⟩):=hout 11 (by decide)
    have q4:=(a0h HCw.p).1
    have q3:=(a0h HCw.f).1
    have q5:=Cs.fat HCw htb
    have qx : W.cell? ⟨X,0,none⟩ = some (Vi Qi tk):=by rw [cell_of_block HXw]; rfl
    obtain ⟨u0,u1,u2,u3,u4,u5,u6,u7,u8,u9,u10,u11,u12,u13,u14,u15,us⟩:=taskf HTw
    obtain rfl | rfl | rfl | rfl | rfl | rfl | rfl | rfl | rfl | rfl | rfl | rfl | rfl : k = 0\/k = 1\/k = 2\/k = 3\/k = 4\/k = 5\/k = 6\/k = 7\/k = 8\/k = 9\/k = 10\/k = 11\/k = 12:=by omega
    · exact a1b rfl (a0n rfl) (v:=valL X (beg.getD tk 0) g tk i (Vs a4 pl.length k4) (Vs (some ⟨g,0,none⟩) beg.length beg.length) t.f lt2.aK lt2.cK 0) (w':=W) (by simp [execOp,go_sem,valL,(show (actL x).tmps[6]?.getD undef = _ from x6),q4]) ⟨_,rfl,a2p (by decide) (by decide),Below.refl _ _⟩
    · exact a1b rfl (a0n rfl) (v:=valL X (beg.getD tk 0) g tk i (Vs a4 pl.length k4) (Vs (some ⟨g,0,none⟩) beg.length beg.length) t.f lt2.aK lt2.cK 1) (w':=W) (by simp [execOp,go_sem,valL,(show (actL x).tmps[11]?.getD undef = _ from x11),Addr.add]) ⟨_,rfl,a2p (by decide) (by decide),Below.refl _ _⟩
    · have p1:=(hpre 1 (by omega) (by kernel_rfl)).1 (by decide) (by decide); simp only [valL,List.getD_cons_zero,List.getD_cons_succ] at p1; exact a1b rfl (a0n rfl) (v:=valL X (beg.getD tk 0) g tk i (Vs a4 pl.length k4) (Vs (some ⟨g,0,none⟩) beg.length beg.length) t.f lt2.aK lt2.cK 2) (w':=W) (by simp [execOp,go_sem,valL,(show (actL x).tmps[44]?.getD undef = _ from p1),u1,u2,u3,u4,u5,u6,u7,u8,u9,u10,u11,u12,u13,u14]) ⟨_,rfl,a2p (by decide) (by decide),Below.refl _ _⟩
    · exact a1b rfl (a0n rfl) (v:=valL X (beg.getD tk 0) g tk i (Vs a4 pl.length k4) (Vs (some ⟨g,0,none⟩) beg.length beg.length) t.f lt2.aK lt2.cK 3) (w':=W) (by simp [execOp,go_sem,valL,(show (actL x).tmps[10]?.getD undef = _ from x10),Addr.add]) ⟨_,rfl,a2p (by decide) (by decide),Below.refl _ _⟩
    · have p3:=(hpre 3 (by omega) (by kernel_rfl)).1 (by decide) (by decide); simp only [valL,List.getD_cons_zero,List.getD_cons_succ] at p3; exact a1b rfl (a0n rfl) (v:=valL X (beg.getD tk 0) g tk i (Vs a4 pl.length k4) (Vs (some ⟨g,0,none⟩) beg.length beg.length) t.f lt2.aK lt2.cK 4) (w':=W) (by simp [execOp,go_sem,valL,(show (actL x).tmps[46]?.getD undef = _ from p3),qx]) ⟨_,rfl,a2p (by decide) (by decide),Below.refl _ _⟩
    · exact a1b rfl (a0n rfl) (v:=valL X (beg.getD tk 0) g tk i (Vs a4 pl.length k4) (Vs (some ⟨g,0,none⟩) beg.length beg.length) t.f lt2.aK lt2.cK 5) (w':=W) (by simp [execOp,go_sem,valL,(show (actL x).tmps[5]?.getD undef = _ from x5),q3]) ⟨_,rfl,a2p (by decide) (by decide),Below.refl _ _⟩
    · exact a1b rfl (a0n rfl) (v:=valL X (beg.getD tk 0) g tk i (Vs a4 pl.length k4) (Vs (some ⟨g,0,none⟩) beg.length beg.length) t.f lt2.aK lt2.cK 6) (w':=W) (by simp [execOp,go_sem,valL,(show (actL x).tmps[10]?.getD undef = _ from x10),Addr.add]) ⟨_,rfl,a2p (by decide) (by decide),Below.refl _ _⟩
    · have p6:=(hpre 6 (by omega) (by kernel_rfl)).1 (by decide) (by decide); simp only [valL,List.getD_cons_zero,List.getD_cons_succ] at p6; exact a1b rfl (a0n rfl) (v:=valL X (beg.getD tk 0) g tk i (Vs a4 pl.length k4) (Vs (some ⟨g,0,none⟩) beg.length beg.length) t.f lt2.aK lt2.cK 7) (w':=W) (by simp [execOp,go_sem,valL,(show (actL x).tmps[49]?.getD undef = _ from p6),qx]) ⟨_,rfl,a2p (by decide) (by decide),Below.refl _ _⟩
    · have p5:=(hpre 5 (by omega) (by kernel_rfl)).1 (by decide) (by decide); simp only [valL,List.getD_cons_zero,List.getD_cons_succ] at p5; have p7:=(hpre 7 (by omega) (by kernel_rfl)).1 (by decide) (by decide); simp only [valL,List.getD_cons_zero,List.getD_cons_succ] at p7; exact a1b rfl (a0n rfl) (v:=valL X (beg.getD tk 0) g tk i (Vs a4 pl.length k4) (Vs (some ⟨g,0,none⟩) beg.length beg.length) t.f lt2.aK lt2.cK 8) (w':=W) (by simp [execOp,go_sem,valL,(show (actL x).tmps[48]?.getD undef = _ from p5),(show (actL x).tmps[50]?.getD undef = _ from p7),htb,Addr.add]; omega) ⟨_,rfl,a2p (by decide) (by decide),Below.refl _ _⟩
    · have p8:=(hpre 8 (by omega) (by kernel_rfl)).1 (by decide) (by decide); simp only [valL,List.getD_cons_zero,List.getD_cons_succ] at p8; exact a1b rfl (a0n rfl) (v:=valL X (beg.getD tk 0) g tk i (Vs a4 pl.length k4) (Vs (some ⟨g,0,none⟩) beg.length beg.length) t.f lt2.aK lt2.cK 9) (w':=W) (by simp [execOp,go_sem,valL,(show (actL x).tmps[51]?.getD undef = _ from p8),q5]) ⟨_,rfl,a2p (by decide) (by decide),Below.refl _ _⟩
    · exact a1b rfl (a0n rfl) (v:=valL X (beg.getD tk 0) g tk i (Vs a4 pl.length k4) (Vs (some ⟨g,0,none⟩) beg.length beg.length) t.f lt2.aK lt2.cK 10) (w':=W) (by simp [execOp,go_sem,valL,(show (actL x).tmps[0]?.getD undef = _ from x0')]) ⟨_,rfl,a2p (by decide) (by decide),Below.refl _ _⟩
    · have p2:=(hpre 2 (by omega) (by kernel_rfl)).1 (by decide) (by decide); simp only [valL,List.getD_cons_zero,List.getD_cons_succ] at p2; have p4:=(hpre 4 (by omega) (by kernel_rfl)).1 (by decide) (by decide); simp only [valL,List.getD_cons_zero,List.getD_cons_succ] at p4; have p9:=(hpre 9 (by omega) (by kernel_rfl)).1 (by decide) (by decide); simp only [valL,List.getD_cons_zero,List.getD_cons_succ] at p9; have p10:=(hpre 10 (by omega) (by kernel_rfl)).1 (by decide) (by decide); simp only [valL,List.getD_cons_zero,List.getD_cons_succ] at p10; 
      refine wpOp_enter rfl (a0n rfl) (f:=81) (args:=#[.agg #[Vi Qi t.f.c.kind,Vi Qi t.f.c.a,Vi Qi t.f.c.b,Vi Qi t.f.c.time,Vi Qi t.f.c.bk,Vi Qi t.f.c.slot,Vi Qi t.f.pl,Vi Qi t.f.cur,Vi Qi t.f.prev,Vi Qi t.f.slot,Vi Qi t.f.n,Vs lt2.aK t.f.keys.length lt2.cK,.bool t.f.done,Vi Qi t.f.e],Vi Qi tk,Vi Qi (beg.getD tk 0 : Nat),Vi Qi i]) (by simp [execOp,go_sem,(show (actL x).tmps[45]?.getD undef = _ from p2),(show (actL x).tmps[47]?.getD undef = _ from p4),(show (actL x).tmps[52]?.getD undef = _ from p9),(show (actL x).tmps[53]?.getD undef = _ from p10)]) ((HTo.out W hb).mono ?_)
      rintro e w4 ⟨a2,c2,rfl,ho4,hb4⟩
      exact ⟨_,rfl,_,rfl,⟨fun h => (h rfl).elim,fun _ => ⟨a2,c2,rfl,ho4.le hb.size⟩,fun h => absurd h (by decide)⟩,hb4⟩
    · obtain ⟨a2,c2,e11,hko⟩:=(hpre 11 (by omega) (by kernel_rfl)).2.1 rfl
      simp only [List.getD_cons_zero,List.getD_cons_succ] at e11
      refine a1b rfl (a0n rfl) (v:=Vs (some ⟨W.heap.size,0,none⟩) 1 1) (w':=W.alloc (.cells #[Vi Qi tk,Vi Qi t.f.c.kind,Vi Qi t.f.c.a,Vi Qi t.f.c.b,Vi Qi t.f.c.time,Vi Qi t.f.c.bk,Vi Qi t.f.c.slot,Vi Qi (beg.getD tk 0 : Nat),Vi Qi i,Vi Qi t.f.e,Vi Qi t.f.slot,Vi Qi t.f.n,Vs a2 t.f.keys.length c2] 78)) (by simp [execOp,go_sem,(show (actL x).tmps[54]?.getD undef = _ from e11)]) ⟨_,rfl,⟨fun _ h => (h rfl).elim,fun h => absurd h (by decide),fun _ => ⟨a2,c2,W.heap.size,rfl,heap_alloc_new _ _,hko.below (a0c _ _)⟩⟩,a0c _ _⟩
  · intro x W hb hout hφ
    have HCw : Hid _:=HC3.out.below hb
    have x6 : x 6 = .pointer (some ⟨B4,0,none⟩):=hout 6 (by decide)
    have p0:=(hφ 0 (by omega)).1 (by decide) (by decide)
    obtain ⟨a2,c2,p,e12,hbk,hko⟩:=(hφ 12 (by omega)).2.2 rfl
    simp only [valL,List.getD_cons_zero,List.getD_cons_succ] at p0 e12
    refine wpOp_step rfl fun K' hK => ?_
    refine a2q W rfl (.tmp 43) (.tmp 55) 69 rfl lo 78 j0 (.agg #[Vi Qi 0,Vi Qi 0,Vi Qi 0,Vi Qi 0,Vi Qi 0,Vi Qi 0,Vi Qi 0,Vi Qi 0,Vi Qi 0,Vi Qi 0,Vi Qi 0,Vi Qi 0,Vs none 0 0]) 13 120 Tryz.underlying69 hj0 hr0 hr1 hr2 rfl (by decide) (Vs a4 pl.length k4) _ _ (show x 43 = _ from p0) HCw.out.po ⟨p,0,none⟩ 1 1 [Vi Qi tk,Vi Qi t.f.c.kind,Vi Qi t.f.c.a,Vi Qi t.f.c.b,Vi Qi t.f.c.time,Vi Qi t.f.c.bk,Vi Qi t.f.c.slot,Vi Qi (beg.getD tk 0 : Nat),Vi Qi i,Vi Qi t.f.e,Vi Qi t.f.slot,Vi Qi t.f.n,Vs a2 t.f.keys.length c2] (show x 55 = _ from e12) rfl (cells_past hbk) (by intro u hu; simp only [List.mem_cons,List.not_mem_nil,or_false] at hu; rcases hu with rfl | rfl | rfl | rfl | rfl | rfl | rfl | rfl | rfl | rfl | rfl | rfl | rfl <;> rfl) (by unfold maxLen; omega) (by omega) (by have:=Hlz.out; have:=HBl3.out.size; have:=hb.size; omega) ?_
    intro v5 w5 ho5 hg5 _ hloc5
    refine hK _ _ ?_
    obtain ⟨g5,cap5,rfl⟩:=ownsRow_form ho5 (by omega)
    have HB5 : w5.heap[B4]? = _:=(hg5.block _ (lt_of_block HCw.out.p) (fun e => own_ne HCw.out.po HCw.out.p (by decide) e.symm)).trans HCw.out.p
    obtain ⟨n1,n2,n3⟩:=a0h HB5
    have hlz3 : lo<=W3.heap.size:=by have:=Hlz.out; have:=HBl3.out.size; omega
    have hbz : b<=W3.heap.size:=by have:=Hz.out; have:=HBl3.out.size; omega
    have HT:=Cs.tellW HCw.out (by have:=hb.size; omega) (v':=Vs (some ⟨g5,0,none⟩) (pl.length + 1) cap5) (q:=(⟨(tk : Int),t.f.c,beg.getD tk 0,i,t.f.e,t.f.slot,t.f.n,t.f.keys⟩,a2,c2)) (hko.le hlz3) (fun ad e hx => by have:=(hko.lt ad e).1; have:=hx.2; omega) hg5 ho5 hloc5
    have HBf : Below lo w (w5.setCell ⟨B4,0,none⟩ (Vs (some ⟨g5,0,none⟩) (pl.length + 1) cap5)):=((HBl3.out.trans (hb.mono hlz3)).grown hg5 (by have:=hb.size; omega) (fun k hk => (HCw.out.po.lt k hk).1)).setCell HCw.out.o4.1 _
    refine wpOp_skip rfl (a0n rfl) (w':=w5.setCell ⟨B4,0,none⟩ (Vs (some ⟨g5,0,none⟩) (pl.length + 1) cap5)) (by simp [execOp,go_sem,Act.put,actL,x6,n1,n2]) ?_
    refine bodyPost_end (results_none rfl _ _ _) rfl ?_
    refine ⟨_,_,_,rfl,HT.1,?_,HBf,fun k h1 h2 => (HT.2 k h1 h2).trans ((hb.block k (by omega)).trans (Hwin3.out k h1 h2))⟩
    rw [List.map_append]
    rfl
end
section
open Go.ChangeShapes Go.WideShapes Go.ChangeAt Go.RowKit Go.Joins Go.Deep Go.Maps
theorem lit_any (lo a b : Nat) (w : World) (B1 B2 B3 B4 g : Nat) (aP : Option Addr) (cP : Nat) (l : List Pk) (v1 v4 : Value) (said : List Int) (pl : List (Pst × Option Addr × Nat)) (beg : List Nat) (Z : List (Nat × Array Value)) (W : Wd) (v : Value) (i : Nat) (E : Int)
    (h : Cs lo a b w B1 B2 B3 B4 g v1 (Vs aP l.length cP) v4 said pl beg Z) (hz : b<=w.heap.size) (hr : PRow w aP cP l) (hrl : ∀ ad,aP = some ad->ad.block < lo) (hi : i < l.length) (hs : said.length<=300) (hps : pl.length<=300) (hW : WIn a b w v W)
    (hx : E = 0->(l[i]'hi).tick = false->0<=(l[i]'hi).task/\(l[i]'hi).task < W.ts.length) (hbl : beg.length = W.ts.length) :
    Calls Tryz.prog 80 #[Vi Qi i,v,Vi Qi E,.pointer (some ⟨B1,0,none⟩),.pointer (some ⟨B2,0,none⟩),.pointer (some ⟨B3,0,none⟩),.pointer (some ⟨B4,0,none⟩)] w (LitP lo a b w B1 B2 B3 B4 g (Vs aP l.length cP) (said ++ [E]) (litP (l[i]'hi) E i beg W (pl.map (·.1))) (litB (l[i]'hi) E i beg) Z):=by
  by_cases h0 : E = 0
  rotate_left
  · have h1:=lit_err lo a b w B1 B2 B3 B4 g aP cP l v1 v4 said pl beg Z W v i E h hz hr hrl hi hs hps hW h0
    unfold litP litB
    rw [if_pos (.inl h0),if_pos (.inl h0)]
    exact h1
  cases hT : (l[i]'hi).tick
  rotate_left
  · have h1:=lit_tick lo a b w B1 B2 B3 B4 g aP cP l v1 v4 said pl beg Z W v i E h hz hr hrl hi hs hps hW h0 hT
    unfold litP litB
    rw [if_pos (.inr hT),if_pos (.inr hT)]
    exact h1
  have hk:=hx h0 hT
  have hn : ¬ (E ≠ 0\/(l[i]'hi).tick = true):=by rw [hT]; simp [h0]
  cases hS : (l[i]'hi).step
  · have h1:=lit_begin lo a b w B1 B2 B3 B4 g aP cP l v1 v4 said pl beg Z W v i E h hz hr hrl hi hs hps hW h0 hT hS (by rw [hbl]; exact hk)
    unfold litP litB
    rw [if_neg hn,if_neg hn,if_neg (by rw [hS]; simp),if_neg (by rw [hS]; simp)]
    exact h1
  cases hB : (W.ts.getD (l[i]'hi).task.toNat idle).busy
  · have h1:=lit_over lo a b w B1 B2 B3 B4 g aP cP l v1 v4 said pl beg Z W v i E h hz hr hrl hi hs hps hW h0 hT hS hk hB hbl
    unfold litP litB
    rw [if_neg hn,if_neg hn,if_pos hS,if_pos hS,if_neg (by rw [hB]; simp)]
    exact h1
  · have h1:=lit_busy lo a b w B1 B2 B3 B4 g aP cP l v1 v4 said pl beg Z W v i E h hz hr hrl hi hs hps hW h0 hT hS hk hB
    unfold litP litB
    rw [if_neg hn,if_neg hn,if_pos hS,if_pos hS,if_pos hB]
    exact h1
theorem stepR_eq (n : Nat) (s : Rs) (x : Pk) : stepR n s x = ⟨nextW s.w x,s.said ++ [doE s.w x],litP x (doE s.w x) n s.beg (nextW s.w x) s.past,litB x (doE s.w x) n s.beg⟩:=by
  unfold stepR nextW litP litB
  by_cases h : doE s.w x = 0
  · rw [if_pos h,if_pos h,h]
    cases hT : x.tick
    · cases hS : x.step
      · simp
      · simp
        split <;> simp_all
    · simp
  · rw [if_neg h,if_neg h,if_pos (.inl h),if_pos (.inl h)]
section
variable {lo a b : Nat} {w w' : World} {B1 B2 B3 B4 g : Nat} {v1 v2 v4 : Value} {said : List Int} {pl : List (Pst × Option Addr × Nat)} {beg : List Nat} {Z : List (Nat × Array Value)}
theorem Cs.wide (h : Cs lo a b w B1 B2 B3 B4 g v1 v2 v4 said pl beg Z) : Cs lo 0 0 w B1 B2 B3 B4 g v1 v2 v4 said pl beg Z :=
  have hz : ∀ k,Out 0 0 k:=fun k hx => by have:=hx.2; omega
  ⟨h.s,h.so,fun k _ => hz k,h.f,h.fo,hz _,h.p,h.po,fun k _ => hz k,fun q hq => ⟨(h.pk q hq).1,fun ad _ => hz _⟩,⟨h.o1.1,hz _⟩,⟨h.o3.1,hz _⟩,⟨h.o4.1,hz _⟩,h.og,h.x,⟨h.ox.1,hz _⟩,h.z⟩
theorem Cs.off (h : Cs lo a b w B1 B2 B3 B4 g v1 v2 v4 said pl beg Z) {X : Nat} {c : Array Value} (hX : w.heap[X]? = some (.cells c 28 (0,0))) (hk : ∀ k,k ≠ X->w'.heap[k]? = w.heap[k]?) (hZ : ∀ q ∈ Z,q.1 ≠ X) : Cs lo a b w' B1 B2 B3 B4 g v1 v2 v4 said pl beg Z:=by
  have nb : ∀ {Y : Nat} {cs : Array Value} {t' : TypeId},w.heap[Y]? = some (.cells cs t' (0,0))->t' ≠ 28->w'.heap[Y]? = some (.cells cs t' (0,0)):=fun hY n2 => by
    refine (hk _ ?_).trans hY
    rintro rfl
    rw [hX] at hY
    injection hY with hY
    injection hY with _ hY
    exact n2 hY.symm
  have nr : ∀ {lo' size n' : Nat} {t' : TypeId} {u : Value} {xs : List Value},w.ownsRow lo' t' size u n' xs->t' ≠ 28->w'.ownsRow lo' t' size u n' xs:=fun hu n2 => by
    refine a1g hu fun k hu' => hk k ?_
    rintro rfl
    exact own_ne hu hX n2 hu'
  exact ⟨nb h.s (by decide),nr h.so (by decide),h.sx,nb h.f (by decide),nb h.fo (by decide),h.fx,nb h.p (by decide),nr h.po (by decide),h.px,fun q hq => ⟨⟨nr (h.pk q hq).1.own (by decide)⟩,(h.pk q hq).2⟩,h.o1,h.o3,h.o4,h.og,nb h.x (by decide),h.ox,fun q hq => (hk _ (hZ q hq)).trans (h.z q hq)⟩
theorem Cs.more (h : Cs lo a b w B1 B2 B3 B4 g v1 v2 v4 said pl beg Z) {Z' : List (Nat × Array Value)} (hZ : ∀ q ∈ Z',w.heap[q.1]? = some (.cells q.2 28 (0,0))) : Cs lo a b w B1 B2 B3 B4 g v1 v2 v4 said pl beg Z' :=
  ⟨h.s,h.so,h.sx,h.f,h.fo,h.fx,h.p,h.po,h.px,h.pk,h.o1,h.o3,h.o4,h.og,h.x,h.ox,hZ⟩
end
theorem THi.le {lo lo' : Nat} {ao : Option Addr} {l : List (Tk × TkV)} (h : THi lo ao l) (hl : lo'<=lo) : THi lo' ao l:=⟨fun ad e => Nat.le_trans hl (h.row ad e),fun p hp ad e => Nat.le_trans hl (h.keys p hp ad e),fun p hp ad e => Nat.le_trans hl (h.held p hp ad e)⟩
theorem OwnP.wans {w : World} {M : Mm} {ts : List Tk} {e : Ending} {w' : World} (h : OwnP w M ts e w') (m1 : M.slots.length * 48<=140737488351232) (m2 : M.heads.length * 8<=140737488351232) (m3 : M.free.length * 8<=140737488351232) (m4 : M.locks.length * 8<=140737488351232) : ∃ v,e = .returned v/\WAns w.heap.size w' v ⟨M,ts⟩/\Below w.heap.size w w':=by
  obtain ⟨gS,gH,gF,gL,kS,kH,kF,kL,gg,c,l',lo2,rfl,R,L,T,-,hts,hlo,hb⟩:=h
  refine ⟨_,rfl,⟨gS,gH,gF,gL,kS,kH,kF,kL,some ⟨gg,0,none⟩,c,l',?_,R.at m1 m2 m3 m4,R.hi,hts.symm,T.trow,T.thi.le hlo⟩,hb⟩
  subst hts
  simp only [List.length_map]
def TurnP (lo X : Nat) (w : World) (B1 B2 B3 B4 g : Nat) (v2 : Value) (s : Rs) (Z : List (Nat × Array Value)) (e : Ending) (w' : World) : Prop :=
  ∃ v v1 v4 pl,e = .returned v/\Cs lo 0 0 w' B1 B2 B3 B4 g v1 v2 v4 s.said pl s.beg Z/\pl.map (·.1) = s.past/\WAns X w' v s.w/\Below lo w w'
end
end Go.Proofs.YthhgoenomehobaaGreat.mm
