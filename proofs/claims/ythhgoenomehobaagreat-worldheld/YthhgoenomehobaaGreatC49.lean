/- Parts. -/
import Derived.Test.YthhgoenomehobaaGreatC48
import Derived.Test.YthhgoenomehobaaGreatC05
import Derived.Test.YthhgoenomehobaaGreatC46
import Derived.Test.YthhgoenomehobaaGreatC45
namespace Go.Proofs.YthhgoenomehobaaGreat.mm
set_option maxRecDepth 100000
set_option linter.unusedVariables false
open Go.Value renaming int → Vi, slice → Vs
open Go.IntKind renaming i64 → Qi
section
open Go.ChangeShapes Go.WideShapes Go.ChangeAt Go.RowKit Go.Joins Go.Deep Go.Maps
theorem do_inv {W : Wd} (I : WInv W) {x : Pk} {lo : Nat} {V : World} {aS aH aF aL : Option Addr} {cS cH cF cL : Nat} {aT : Option Addr} {cT : Nat} (h : WAns lo V (.agg #[Vs aS W.m.slots.length cS,Vs aH W.m.heads.length cH,Vs aF W.m.free.length cF,Vs aL W.m.locks.length cL,Vi Qi W.m.now,Vs aT W.ts.length cT]) W) :
    Calls Tryz.prog 15 #[.agg #[Vs aS W.m.slots.length cS,Vs aH W.m.heads.length cH,Vs aF W.m.free.length cF,Vs aL W.m.locks.length cL,Vi Qi W.m.now,Vs aT W.ts.length cT],.agg #[Vi Qi x.task,.bool x.step,.bool x.tick,Vi Qi x.c.kind,Vi Qi x.c.a,Vi Qi x.c.b,Vi Qi x.c.time,Vi Qi x.c.bk,Vi Qi x.c.slot]] V fun e V' => ∃ v,e = .returned (.tuple #[v,Vi Qi (doE W x)])/\WAns V.heap.size V' v (if doE W x = 0 then doW W x else w0W)/\Below V.heap.size V V':=by
  obtain ⟨bS,bH,bF,bL,dS,dH,dF,dL,bT,dT,lt,e,A,hi,hts,hT,hTh⟩:=h
  have e1:=Value.agg.inj e
  simp only [Array.mk.injEq,List.cons.injEq,Value.slice.injEq,true_and,and_true] at e1
  obtain ⟨⟨rfl,rfl⟩,⟨rfl,rfl⟩,⟨rfl,rfl⟩,⟨rfl,rfl⟩,rfl,rfl⟩:=e1
  have h:=do_any W.m lt x aS aH aF aL cS cH cF cL aT cT V A hT
  have hts' : lt.length = W.ts.length:=by rw [hts,List.length_map]
  rw [<- hts,hts'] at h
  refine h.mono ?_
  rintro e w' ⟨v,rfl,h1,h2⟩
  rw [I.DoE] at h1 ⊢
  exact ⟨v,rfl,h1,h2⟩
theorem own_inv {W : Wd} (I : WInv W) {lo : Nat} {V : World} {aS aH aF aL : Option Addr} {cS cH cF cL : Nat} {aT : Option Addr} {cT : Nat} (h : WAns lo V (.agg #[Vs aS W.m.slots.length cS,Vs aH W.m.heads.length cH,Vs aF W.m.free.length cF,Vs aL W.m.locks.length cL,Vi Qi W.m.now,Vs aT W.ts.length cT]) W) :
    Calls Tryz.prog 57 #[.agg #[Vs aS W.m.slots.length cS,Vs aH W.m.heads.length cH,Vs aF W.m.free.length cF,Vs aL W.m.locks.length cL,Vi Qi W.m.now,Vs aT W.ts.length cT]] V fun e V' => ∃ v,e = .returned v/\WAns V.heap.size V' v W/\Below V.heap.size V V':=by
  obtain ⟨bS,bH,bF,bL,dS,dH,dF,dL,bT,dT,lt,e,A,hi,hts,hT,hTh⟩:=h
  have e1:=Value.agg.inj e
  simp only [Array.mk.injEq,List.cons.injEq,Value.slice.injEq,true_and,and_true] at e1
  obtain ⟨⟨rfl,rfl⟩,⟨rfl,rfl⟩,⟨rfl,rfl⟩,⟨rfl,rfl⟩,rfl,rfl⟩:=e1
  have hts' : lt.length = W.ts.length:=by rw [hts,List.length_map]
  have h:=own_any W.m lt aS aH aF aL cS cH cF cL aT cT V A hT (by have:=I.nt.1; omega) (by have:=I.nt.2; omega) (fun p hp => by
    have:=(I.held p.1 (by rw [hts]; exact List.mem_map_of_mem hp)).1
    omega)
  rw [<- hts,hts'] at h
  refine h.mono ?_
  intro e w' h
  exact h.wans A.s.max A.h.max A.f.max A.l.max
theorem do_len {W : Wd} {x : Pk} (h : doE W x = 0) : (doW W x).ts.length = W.ts.length/\(x.tick = false->0<=x.task/\x.task < W.ts.length):=by
  rcases pick_kind h with ⟨ht,-,e⟩ | ⟨ht,-,hr,-,-,e⟩ | ⟨ht,-,hr,-,-,-,-,-,e⟩
  · rw [e,ht]; exact ⟨rfl,fun h => by cases h⟩
  · rw [e]; exact ⟨by simp,fun _ => hr⟩
  · rw [e]; exact ⟨by simp,fun _ => hr⟩
theorem PRow.low {w w' : World} {lo : Nat} {ao : Option Addr} {cap : Nat} {l : List Pk} (r : PRow w ao cap l) (hb : Below lo w w') (hl : ∀ ad,ao = some ad->ad.block < lo) : PRow w' ao cap l:=by
  refine ⟨r.le,r.max,r.nil,?_⟩
  rcases r.at_ with h | ⟨b,o,h,hc⟩
  · exact .inl h
  · exact .inr ⟨b,o,h,fun i hi => a2g (hc i hi) hb (hl _ h)⟩
theorem litB_len (x : Pk) (e : Int) (i : Nat) (beg : List Nat) : (litB x e i beg).length = beg.length:=by
  unfold litB
  repeat' split
  all_goals simp
theorem litP_len (x : Pk) (e : Int) (i : Nat) (beg : List Nat) (W : Wd) (past : List Pst) : (litP x e i beg W past).length<=past.length + 1:=by
  unfold litP
  repeat' split
  all_goals simp
set_option maxHeartbeats 4000000 in
theorem inTurn_run (lo : Nat) (w : World) (B1 B2 B3 B4 g : Nat) (aP : Option Addr) (cP : Nat) (l : List Pk) (v1 v4 : Value) (beg : List Nat) (Zx : List (Nat × Array Value)) (W0 : Wd) (v : Value)
    (hI : WInv W0) (hv : WAns 0 w v W0) (h : Cs lo 0 0 w B1 B2 B3 B4 g v1 (Vs aP l.length cP) v4 [] [] beg Zx) (hr : PRow w aP cP l) (hrl : 0 < l.length->∀ ad,aP = some ad->ad.block < lo) (hl : l.length<=300) (hbl : beg.length = W0.ts.length) (hlo : lo<=w.heap.size) :
    Calls Tryz.prog 79 #[v,Vs aP l.length cP,.func (.func 80) #[] #[.pointer (some ⟨B1,0,none⟩),.pointer (some ⟨B2,0,none⟩),.pointer (some ⟨B3,0,none⟩),.pointer (some ⟨B4,0,none⟩)]] w (TurnP lo w.heap.size w B1 B2 B3 B4 g (Vs aP l.length cP) (runR 0 ⟨W0,[],[],beg⟩ l) Zx):=by
  have m1:=hr.max
  have m2:=hr.le
  have HR : Hid (PRow w aP cP l):=hr
  have HRl : Hid (0 < l.length->∀ ad,aP = some ad->ad.block < lo):=hrl
  have HI0 : Hid (WInv W0):=hI
  have Hlo : Hid (lo<=w.heap.size):=hlo
  have Hl : Hid (l.length<=300):=hl
  obtain ⟨s0,hs0⟩ : ∃ s0 : Rs,s0 = ⟨W0,[],[],beg⟩:=⟨_,rfl⟩
  rw [<- hs0]
  obtain ⟨sE,hsE⟩ : ∃ sE : Rs,sE = runR 0 s0 l:=⟨_,rfl⟩
  rw [<- hsE]
  have HsE : Hid (runR 0 s0 (l.drop 0) = sE):=by show _ = _; rw [hsE]; rfl
  have Hs0 : Hid (s0 = ⟨W0,[],[],beg⟩):=hs0
  have HC0 : Hid (Cs lo 0 0 w B1 B2 B3 B4 g v1 (Vs aP l.length cP) v4 [] [] beg Zx):=h
  have HZx : Hid (∀ q ∈ Zx,q.1 < w.heap.size):=fun q hq => lt_of_block (h.z q hq)
  have HBl : Hid (beg.length = W0.ts.length):=hbl
  obtain ⟨aS,aH,aF,aL,cS,cH,cF,cL,aT,cT,lt,rfl,-⟩:=id hv
  obtain ⟨ox,hox⟩ : ∃ o : Obj,o = .cells #[Vs aS W0.m.slots.length cS,Vs aH W0.m.heads.length cH,Vs aF W0.m.free.length cF,Vs aL W0.m.locks.length cL,Vi Qi W0.m.now,Vs aT W0.ts.length cT] 28:=⟨_,rfl⟩
  obtain ⟨oy,hoy⟩ : ∃ o : Obj,o = .cells #[Vs none 0 0,Vs none 0 0,Vs none 0 0,Vs none 0 0,Vi Qi 0,Vs none 0 0] 28:=⟨_,rfl⟩
  have b0 : Below w.heap.size w ((w.alloc ox).alloc oy):=below_alloc2 w ox oy
  have HX0 : Hid (((w.alloc ox).alloc oy).heap[w.heap.size]? = some ox):=by show _ = _; rw [Below.heap_alloc _ _ _ (by simp),heap_alloc_new]
  have HY0 : Hid (((w.alloc ox).alloc oy).heap[w.heap.size + 1]? = some oy):=by
    have:=heap_alloc_new (w.alloc ox) oy
    rwa [show (w.alloc ox).heap.size = w.heap.size + 1 by simp] at this
  have HV0 : Hid (WAns 0 ((w.alloc ox).alloc oy) (.agg #[Vs aS W0.m.slots.length cS,Vs aH W0.m.heads.length cH,Vs aF W0.m.free.length cF,Vs aL W0.m.locks.length cL,Vi Qi W0.m.now,Vs aT W0.ts.length cT]) W0):=hv.below b0
  have Hb0 : Hid (Below w.heap.size w ((w.alloc ox).alloc oy)):=b0
  have hz0 : w.heap.size + 2 = ((w.alloc ox).alloc oy).heap.size:=by simp
  clear hI hv h hr hrl hbl hs0 hsE hlo b0
  go_enter Tryz.func79,Tryz.ntmps79
  have l6 : Hid (((w.alloc (.cells #[Vs aS W0.m.slots.length cS,Vs aH W0.m.heads.length cH,Vs aF W0.m.free.length cF,Vs aL W0.m.locks.length cL,Vi Qi W0.m.now,Vs aT W0.ts.length cT] 28)).alloc (.cells #[Vs none 0 0,Vs none 0 0,Vs none 0 0,Vs none 0 0,Vi Qi 0,Vs none 0 0] 28)).rangeAt w.heap.size 0 [Vs aS W0.m.slots.length cS,Vs aH W0.m.heads.length cH,Vs aF W0.m.free.length cF,Vs aL W0.m.locks.length cL,Vi Qi W0.m.now,Vs aT W0.ts.length cT]):=by subst hox hoy; exact a0o HX0.out rfl
  go_wp2_with (refine wl_6 rfl _ rfl rfl l6.out ?_)
  rw [<- hox,<- hoy]
  rw [<- hox,<- hoy] at l6
  clear l6
  generalize (w.alloc ox).alloc oy = W1 at *
  subst hox hoy
  refine (own_inv HI0.out HV0.out).mono ?_
  rintro e w2 ⟨v2,rfl,hv2,hb2⟩
  obtain ⟨aS2,aH2,aF2,aL2,cS2,cH2,cF2,cL2,aT2,cT2,lt2,rfl,-⟩:=id hv2
  have HX2 : Hid (w2.heap[w.heap.size]? = _):=(hb2.block _ (lt_of_block HX0.out)).trans HX0.out
  have HY2 : Hid (w2.heap[w.heap.size + 1]? = _):=(hb2.block _ (lt_of_block HY0.out)).trans HY0.out
  have t6 : Hid (w2.there w.heap.size 0 6):=a1a HX2.out (by simp)
  have hz2:=hb2.size
  have Hb2 : Hid (Below w.heap.size w w2):=Hb0.out.trans (hb2.mono Hb0.out.size)
  obtain ⟨W3,hW3⟩ : ∃ W3,W3 = w2.setCells w.heap.size 0 [Vs aS2 W0.m.slots.length cS2,Vs aH2 W0.m.heads.length cH2,Vs aF2 W0.m.free.length cF2,Vs aL2 W0.m.locks.length cL2,Vi Qi W0.m.now,Vs aT2 W0.ts.length cT2]:=⟨_,rfl⟩
  have ho3 : ∀ k,k ≠ w.heap.size->W3.heap[k]? = w2.heap[k]?:=fun k hk => by rw [hW3]; exact a0e hk _ _ _
  have hX3 : W3.heap[w.heap.size]? = some (.cells #[Vs aS2 W0.m.slots.length cS2,Vs aH2 W0.m.heads.length cH2,Vs aF2 W0.m.free.length cF2,Vs aL2 W0.m.locks.length cL2,Vi Qi W0.m.now,Vs aT2 W0.ts.length cT2] 28 (0,0)):=by rw [hW3]; exact a0v HX2.out rfl
  have hY3 : W3.heap[w.heap.size + 1]? = some (.cells #[Vs none 0 0,Vs none 0 0,Vs none 0 0,Vs none 0 0,Vi Qi 0,Vs none 0 0] 28 (0,0)):=(ho3 _ (by omega)).trans HY2.out
  have hsz3 : W3.heap.size = w2.heap.size:=by rw [hW3]; exact setCells_size _ _ _
  have HWi : Hid (WIn W1.heap.size w2.heap.size W3 (.agg #[Vs aS2 W0.m.slots.length cS2,Vs aH2 W0.m.heads.length cH2,Vs aF2 W0.m.free.length cF2,Vs aL2 W0.m.locks.length cL2,Vi Qi W0.m.now,Vs aT2 W0.ts.length cT2]) W0):=hv2.wIn.same fun k h1 h2 => ho3 k (by omega)
  have Hb3 : Hid (Below lo w W3):=by
    have h1 : Below w.heap.size w W3:=by rw [hW3]; exact a0l Hb2.out (Nat.le_refl _)
    exact h1.mono Hlo.out
  have HC3 : Hid (Cs lo W1.heap.size w2.heap.size W3 B1 B2 B3 B4 g v1 (Vs aP l.length cP) v4 [] [] beg ((w.heap.size,#[Vs aS2 W0.m.slots.length cS2,Vs aH2 W0.m.heads.length cH2,Vs aF2 W0.m.free.length cF2,Vs aL2 W0.m.locks.length cL2,Vi Qi W0.m.now,Vs aT2 W0.ts.length cT2]) :: (w.heap.size + 1,#[Vs none 0 0,Vs none 0 0,Vs none 0 0,Vs none 0 0,Vi Qi 0,Vs none 0 0]) :: Zx)):=by
    have h1 : Cs lo W1.heap.size w2.heap.size W1 B1 B2 B3 B4 g v1 (Vs aP l.length cP) v4 [] [] beg Zx:=(HC0.out.below Hb0.out).turn _
    have h2:=(h1.below hb2).off HX2.out ho3 (fun q hq => by have:=HZx.out q hq; omega)
    refine h2.more fun q hq => ?_
    simp only [List.mem_cons] at hq
    rcases hq with rfl | rfl | hq
    · exact hX3
    · exact hY3
    · exact h2.z q hq
  clear ho3 hX3 hY3 HX0 HY0 HV0 Hb0 HX2 HY2 hv2 hb2 Hb2 HC0
  go_wp2_with (refine ws_6 rfl _ _ rfl rfl rfl t6.out (by kernel_rfl) ?_; rw [<- hW3]; clear t6 hW3)
  have HZ3 : Hid (w.heap.size + 1 < W1.heap.size/\w2.heap.size<=W3.heap.size):=⟨by omega,by omega⟩
  go_loopw [15] (fun i wr => ∃ (k : Nat) (s : Rs) (a b : Nat) (v1 v4 : Value) (pl : List (Pst × Option Addr × Nat)) (aS aH aF aL : Option Addr) (cS cH cF cL : Nat) (aT : Option Addr) (cT : Nat),k<=l.length/\i = Vi Qi k/\Hid (runR k s (l.drop k) = sE)/\Hid (WInv s.w)/\Hid (Cs lo a b wr B1 B2 B3 B4 g v1 (Vs aP l.length cP) v4 s.said pl s.beg ((w.heap.size,#[Vs aS s.w.m.slots.length cS,Vs aH s.w.m.heads.length cH,Vs aF s.w.m.free.length cF,Vs aL s.w.m.locks.length cL,Vi Qi s.w.m.now,Vs aT s.w.ts.length cT]) :: (w.heap.size + 1,#[Vs none 0 0,Vs none 0 0,Vs none 0 0,Vs none 0 0,Vi Qi 0,Vs none 0 0]) :: Zx))/\Hid (pl.map (·.1) = s.past)/\Hid (WIn a b wr (.agg #[Vs aS s.w.m.slots.length cS,Vs aH s.w.m.heads.length cH,Vs aF s.w.m.free.length cF,Vs aL s.w.m.locks.length cL,Vi Qi s.w.m.now,Vs aT s.w.ts.length cT]) s.w)/\Hid (Below lo w wr)/\Hid (w.heap.size + 1 < a/\b<=wr.heap.size)/\Hid (s.said.length = k/\pl.length<=k/\s.beg.length = s.w.ts.length)) (fun i _ => l.length - (intOf i).toNat)
  case atStart => exact ⟨0,s0,W1.heap.size,w2.heap.size,v1,v4,[],aS2,aH2,aF2,aL2,cS2,cH2,cF2,cL2,aT2,cT2,Nat.zero_le _,rfl,HsE,by rw [Hs0.out]; exact HI0,by rw [Hs0.out]; exact HC3,by rw [Hs0.out]; exact rfl,by rw [Hs0.out]; exact HWi,Hb3,HZ3,by rw [Hs0.out]; exact ⟨rfl,Nat.le_refl _,HBl.out⟩⟩
  case round =>
    obtain ⟨k,s,a,b,v1,v4,pl,aS,aH,aF,aL,cS,cH,cF,cL,aT,cT,hk,rfl,HrE,HIw,HC,HPl,HWi',Hb,HZ,HN⟩:=hrel
    clear HC3 HWi Hb3 HZ3 HsE Hs0 HI0 HBl
    have HXb : Hid (wr.heap[w.heap.size]? = some (.cells #[Vs aS s.w.m.slots.length cS,Vs aH s.w.m.heads.length cH,Vs aF s.w.m.free.length cF,Vs aL s.w.m.locks.length cL,Vi Qi s.w.m.now,Vs aT s.w.ts.length cT] 28 (0,0))):=HC.out.z _ (.head _)
    have HYb : Hid (wr.heap[w.heap.size + 1]? = some (.cells #[Vs none 0 0,Vs none 0 0,Vs none 0 0,Vs none 0 0,Vi Qi 0,Vs none 0 0] 28 (0,0))):=HC.out.z _ (.tail _ (.head _))
    by_cases hlt : k < l.length
    · have HRk : Hid (∀ ad,aP = some ad->ad.block < lo):=HRl.out (by omega)
      clear HRl
      rcases HR.out.at_ with h0 | ⟨bP,oP,rfl,hx⟩
      · omega
      have hbP : bP < lo:=HRk.out _ rfl
      have lX : Hid (wr.rangeAt bP (oP + k * 9) [Vi Qi (l[k]).task,.bool (l[k]).step,.bool (l[k]).tick,Vi Qi ((l[k]).c).kind,Vi Qi ((l[k]).c).a,Vi Qi ((l[k]).c).b,Vi Qi ((l[k]).c).time,Vi Qi ((l[k]).c).bk,Vi Qi ((l[k]).c).slot]):=a2g (hx k hlt) Hb.out hbP
      clear hx
      obtain ⟨x,hx⟩ : ∃ x,x = l[k]:=⟨_,rfl⟩
      rw [<- hx] at lX
      have Hx : Hid (x = l[k]):=hx
      clear hx
      have hzw : lo<=wr.heap.size:=by have:=Hlo.out; have:=Hb.out.size; omega
      obtain ⟨op,hop⟩ : ∃ o : Obj,o = .cells #[Vi Qi x.task,.bool x.step,.bool x.tick,Vi Qi x.c.kind,Vi Qi x.c.a,Vi Qi x.c.b,Vi Qi x.c.time,Vi Qi x.c.bk,Vi Qi x.c.slot] 34:=⟨_,rfl⟩
      have b2 : Below wr.heap.size wr (wr.alloc op):=a0c _ _
      have HX2 : Hid ((wr.alloc op).heap[w.heap.size]? = some (.cells #[Vs aS s.w.m.slots.length cS,Vs aH s.w.m.heads.length cH,Vs aF s.w.m.free.length cF,Vs aL s.w.m.locks.length cL,Vi Qi s.w.m.now,Vs aT s.w.ts.length cT] 28 (0,0))):=(b2.block _ (lt_of_block HXb.out)).trans HXb.out
      have HP2 : Hid ((wr.alloc op).heap[wr.heap.size]? = some op):=heap_alloc_new _ _
      have HC2 : Hid (Cs lo a b (wr.alloc op) B1 B2 B3 B4 g v1 (Vs (some ⟨bP,oP,none⟩) l.length cP) v4 s.said pl s.beg ((w.heap.size,#[Vs aS s.w.m.slots.length cS,Vs aH s.w.m.heads.length cH,Vs aF s.w.m.free.length cF,Vs aL s.w.m.locks.length cL,Vi Qi s.w.m.now,Vs aT s.w.ts.length cT]) :: (w.heap.size + 1,#[Vs none 0 0,Vs none 0 0,Vs none 0 0,Vs none 0 0,Vi Qi 0,Vs none 0 0]) :: Zx)):=HC.out.below b2
      have HW2 : Hid (WIn a b (wr.alloc op) (.agg #[Vs aS s.w.m.slots.length cS,Vs aH s.w.m.heads.length cH,Vs aF s.w.m.free.length cF,Vs aL s.w.m.locks.length cL,Vi Qi s.w.m.now,Vs aT s.w.ts.length cT]) s.w):=HWi'.out.same fun j h1 h2 => b2.block j (by have:=HZ.out.2; omega)
      have Hb2 : Hid (Below lo w (wr.alloc op)):=Hb.out.alloc hzw op
      have HZ2 : Hid (w.heap.size + 1 < a/\b<=(wr.alloc op).heap.size/\w.heap.size + 1 < (wr.alloc op).heap.size):=⟨HZ.out.1,by have:=HZ.out.2; simp; omega,by have:=lt_of_block HYb.out; simp; omega⟩
      subst hop
      have l6 : Hid ((wr.alloc (.cells #[Vi Qi x.task,.bool x.step,.bool x.tick,Vi Qi x.c.kind,Vi Qi x.c.a,Vi Qi x.c.b,Vi Qi x.c.time,Vi Qi x.c.bk,Vi Qi x.c.slot] 34)).rangeAt w.heap.size 0 [Vs aS s.w.m.slots.length cS,Vs aH s.w.m.heads.length cH,Vs aF s.w.m.free.length cF,Vs aL s.w.m.locks.length cL,Vi Qi s.w.m.now,Vs aT s.w.ts.length cT]):=a0o HX2.out rfl
      have lX2 : Hid ((wr.alloc (.cells #[Vi Qi x.task,.bool x.step,.bool x.tick,Vi Qi x.c.kind,Vi Qi x.c.a,Vi Qi x.c.b,Vi Qi x.c.time,Vi Qi x.c.bk,Vi Qi x.c.slot] 34)).rangeAt wr.heap.size 0 [Vi Qi x.task,.bool x.step,.bool x.tick,Vi Qi x.c.kind,Vi Qi x.c.a,Vi Qi x.c.b,Vi Qi x.c.time,Vi Qi x.c.bk,Vi Qi x.c.slot]):=a0o HP2.out rfl
      have hzz : wr.heap.size < (wr.alloc (.cells #[Vi Qi x.task,.bool x.step,.bool x.tick,Vi Qi x.c.kind,Vi Qi x.c.a,Vi Qi x.c.b,Vi Qi x.c.time,Vi Qi x.c.bk,Vi Qi x.c.slot] 34)).heap.size:=by simp
      clear HXb HYb b2 HC HWi' Hb HZ
      go_wp2_with (first | refine wl_X rfl _ rfl rfl lX.out ?_ | refine wl_6 rfl _ rfl rfl l6.out ?_ | refine wl_X rfl _ rfl rfl lX2.out ?_)
      clear l6 lX2 lX HP2
      generalize World.alloc wr _ = W2 at *
      refine (do_inv HIw.out (x:=x) (HW2.out W2 (fun _ _ _ => rfl))).mono ?_
      rintro e w3 ⟨v3,rfl,hv3,hb3⟩
      obtain ⟨E,hE⟩ : ∃ E,E = doE s.w x:=⟨_,rfl⟩
      rw [<- hE] at hv3 ⊢
      have HE : Hid (E = doE s.w x):=hE
      have Hst:=stepR_eq k s x
      rw [<- hE] at Hst
      have HrE' : Hid (runR (k + 1) (stepR k s x) (l.drop (k + 1)) = sE):=by
        have h1:=HrE.out
        rw [List.drop_eq_getElem_cons hlt,<- Hx.out] at h1
        exact h1
      have hz3:=hb3.size
      have Hb3 : Hid (Below lo w w3):=Hb2.out.trans (hb3.mono (by have:=Hb2.out.size; have:=Hlo.out; omega))
      have hl300:=Hl.out
      have hN1:=HN.out.1; have hN2:=HN.out.2.1; have hN3:=HN.out.2.2
      clear HrE hE
      by_cases hE0 : E = 0
      rotate_left
      · have h' : (E == 0) = false:=by simpa using hE0
        obtain ⟨_,_,_,_,_,_,_,_,_,_,_,rfl,-⟩:=hv3
        have H4 : Hid (∀ o : Obj,Cs lo a b (w3.alloc o) B1 B2 B3 B4 g v1 (Vs (some ⟨bP,oP,none⟩) l.length cP) v4 s.said pl s.beg ((w.heap.size,#[Vs aS s.w.m.slots.length cS,Vs aH s.w.m.heads.length cH,Vs aF s.w.m.free.length cF,Vs aL s.w.m.locks.length cL,Vi Qi s.w.m.now,Vs aT s.w.ts.length cT]) :: (w.heap.size + 1,#[Vs none 0 0,Vs none 0 0,Vs none 0 0,Vs none 0 0,Vi Qi 0,Vs none 0 0]) :: Zx)/\WIn a b (w3.alloc o) (.agg #[Vs aS s.w.m.slots.length cS,Vs aH s.w.m.heads.length cH,Vs aF s.w.m.free.length cF,Vs aL s.w.m.locks.length cL,Vi Qi s.w.m.now,Vs aT s.w.ts.length cT]) s.w/\Below lo w (w3.alloc o)/\(w3.alloc o).rangeAt w.heap.size 0 [Vs aS s.w.m.slots.length cS,Vs aH s.w.m.heads.length cH,Vs aF s.w.m.free.length cF,Vs aL s.w.m.locks.length cL,Vi Qi s.w.m.now,Vs aT s.w.ts.length cT]/\b<=(w3.alloc o).heap.size/\PRow (w3.alloc o) (some ⟨bP,oP,none⟩) cP l):=fun o =>
          have b4 : Below W2.heap.size W2 (w3.alloc o):=hb3.alloc hb3.size o
          have b5 : Below lo w (w3.alloc o):=Hb3.out.alloc (by have:=Hb3.out.size; have:=Hlo.out; omega) o
          ⟨HC2.out.below b4,HW2.out.same fun j h1 h2 => b4.block j (by have:=HZ2.out.2.1; omega),b5,a0o ((b4.block _ (lt_of_block HX2.out)).trans HX2.out) rfl,by have:=HZ2.out.2.1; simp; omega,HR.out.low b5 HRk.out⟩
        rw [show nextW s.w x = s.w by unfold nextW; rw [<- HE.out,if_neg hE0]] at Hst
        have Hst' : Hid (stepR k s x = _):=Hst
        have HE0 : Hid (E ≠ 0):=hE0
        clear HC2 HW2 HX2 Hb2 Hb3 hb3 Hst hE0
        go_wp2_with (refine wl_6 rfl _ rfl rfl (H4.out _).2.2.2.1 ?_)
        refine (lit_any lo a b _ B1 B2 B3 B4 g (some ⟨bP,oP,none⟩) cP l v1 v4 s.said pl s.beg _ s.w _ k E (H4.out _).1 (H4.out _).2.2.2.2.1 (H4.out _).2.2.2.2.2 HRk.out hlt (by omega) (by omega) (H4.out _).2.1 (fun h => (HE0.out h).elim) hN3).mono ?_
        rintro e w5 ⟨v15,v45,pl5,rfl,hC5,hpl5,hb5,hw5⟩
        rw [<- Hx.out] at hC5 hpl5
        have HRel : Hid (WIn a b w5 (.agg #[Vs aS s.w.m.slots.length cS,Vs aH s.w.m.heads.length cH,Vs aF s.w.m.free.length cF,Vs aL s.w.m.locks.length cL,Vi Qi s.w.m.now,Vs aT s.w.ts.length cT]) s.w/\Below lo w w5/\b<=w5.heap.size):=⟨(H4.out _).2.1.same hw5,(H4.out _).2.2.1.trans hb5,by have:=(H4.out (.cells #[] 0)).2.2.2.2.1; have:=hb5.size; simp at *; omega⟩
        have HC5 : Hid (Cs lo a b w5 B1 B2 B3 B4 g v15 (Vs (some ⟨bP,oP,none⟩) l.length cP) v45 (s.said ++ [E]) pl5 (litB x E k s.beg) ((w.heap.size,#[Vs aS s.w.m.slots.length cS,Vs aH s.w.m.heads.length cH,Vs aF s.w.m.free.length cF,Vs aL s.w.m.locks.length cL,Vi Qi s.w.m.now,Vs aT s.w.ts.length cT]) :: (w.heap.size + 1,#[Vs none 0 0,Vs none 0 0,Vs none 0 0,Vs none 0 0,Vi Qi 0,Vs none 0 0]) :: Zx)):=hC5
        have HP5 : Hid (pl5.map (·.1) = litP x E k s.beg s.w (pl.map (·.1))):=hpl5
        clear hC5 hpl5 hb5 hw5 H4
        go_wp2
        go_roundw
        case rel => exact ⟨k + 1,stepR k s x,a,b,v15,v45,pl5,aS,aH,aF,aL,cS,cH,cF,cL,aT,cT,by omega,by go_num,HrE',by rw [Hst'.out]; exact HIw,by rw [Hst'.out]; exact HC5,by rw [Hst'.out]; exact (HP5.out.trans (by rw [HPl.out])),by rw [Hst'.out]; exact HRel.out.1,HRel.out.2.1,⟨HZ2.out.1,HRel.out.2.2⟩,by rw [Hst'.out]; exact ⟨by simp [hN1],by have:=congrArg List.length HP5.out; rw [List.length_map] at this; have:=litP_len x E k s.beg s.w (pl.map (·.1)); rw [List.length_map] at this; omega,(litB_len x E k s.beg).trans hN3⟩⟩
        case measure => simp [intOf]; omega
      · have HdE : Hid (doE s.w x = 0):=HE.out.symm.trans hE0
        rw [if_pos hE0] at hv3
        obtain ⟨W',hW'⟩ : ∃ W',W' = doW s.w x:=⟨_,rfl⟩
        rw [<- hW'] at hv3
        rw [show nextW s.w x = W' by unfold nextW; rw [HdE.out,if_pos rfl,hW']] at Hst
        have HW' : Hid (W' = doW s.w x):=hW'
        have HIn : Hid (WInv W'):=by show WInv W'; rw [hW']; exact pick_inv HIw.out HdE.out
        have HLn : Hid (W'.ts.length = s.w.ts.length/\(x.tick = false->0<=x.task/\x.task < s.w.ts.length)):=by have:=do_len HdE.out; rw [<- hW'] at this; exact this
        have Hst' : Hid (stepR k s x = _):=Hst
        clear hW' Hst
        subst hE0
        obtain ⟨aS1,aH1,aF1,aL1,cS1,cH1,cF1,cL1,aT1,cT1,lt1,rfl,-⟩:=id hv3
        obtain ⟨oq,hoq⟩ : ∃ o : Obj,o = .cells #[Vs aS1 W'.m.slots.length cS1,Vs aH1 W'.m.heads.length cH1,Vs aF1 W'.m.free.length cF1,Vs aL1 W'.m.locks.length cL1,Vi Qi W'.m.now,Vs aT1 W'.ts.length cT1] 28:=⟨_,rfl⟩
        have b4 : Below W2.heap.size W2 (w3.alloc oq):=hb3.alloc hb3.size oq
        have HY4 : Hid ((w3.alloc oq).heap[w3.heap.size]? = some oq):=heap_alloc_new _ _
        have hX4 : (w3.alloc oq).heap[w.heap.size]? = some (.cells #[Vs aS s.w.m.slots.length cS,Vs aH s.w.m.heads.length cH,Vs aF s.w.m.free.length cF,Vs aL s.w.m.locks.length cL,Vi Qi s.w.m.now,Vs aT s.w.ts.length cT] 28 (0,0)):=(b4.block _ (lt_of_block HX2.out)).trans HX2.out
        have hC4 : Cs lo W2.heap.size w3.heap.size (w3.alloc oq) B1 B2 B3 B4 g v1 (Vs (some ⟨bP,oP,none⟩) l.length cP) v4 s.said pl s.beg ((w.heap.size,#[Vs aS s.w.m.slots.length cS,Vs aH s.w.m.heads.length cH,Vs aF s.w.m.free.length cF,Vs aL s.w.m.locks.length cL,Vi Qi s.w.m.now,Vs aT s.w.ts.length cT]) :: (w.heap.size + 1,#[Vs none 0 0,Vs none 0 0,Vs none 0 0,Vs none 0 0,Vi Qi 0,Vs none 0 0]) :: Zx):=((HC2.out.turn w3.heap.size).below b4)
        have hW4 : WIn W2.heap.size w3.heap.size (w3.alloc oq) (.agg #[Vs aS1 W'.m.slots.length cS1,Vs aH1 W'.m.heads.length cH1,Vs aF1 W'.m.free.length cF1,Vs aL1 W'.m.locks.length cL1,Vi Qi W'.m.now,Vs aT1 W'.ts.length cT1]) W':=hv3.wIn.same fun j h1 h2 => (a0c _ _).block j h2
        have Hb4 : Hid (Below lo w (w3.alloc oq)):=Hb3.out.alloc (by have:=Hb3.out.size; have:=Hlo.out; omega) oq
        have t8 : Hid ((w3.alloc oq).there w.heap.size 0 6):=a1a hX4 (by simp)
        obtain ⟨W5,hW5⟩ : ∃ W5,W5 = (w3.alloc oq).setCells w.heap.size 0 [Vs aS1 W'.m.slots.length cS1,Vs aH1 W'.m.heads.length cH1,Vs aF1 W'.m.free.length cF1,Vs aL1 W'.m.locks.length cL1,Vi Qi W'.m.now,Vs aT1 W'.ts.length cT1]:=⟨_,rfl⟩
        have ho5 : ∀ j,j ≠ w.heap.size->W5.heap[j]? = (w3.alloc oq).heap[j]?:=fun j hj => by rw [hW5]; exact a0e hj _ _ _
        have hX5 : W5.heap[w.heap.size]? = some (.cells #[Vs aS1 W'.m.slots.length cS1,Vs aH1 W'.m.heads.length cH1,Vs aF1 W'.m.free.length cF1,Vs aL1 W'.m.locks.length cL1,Vi Qi W'.m.now,Vs aT1 W'.ts.length cT1] 28 (0,0)):=by rw [hW5]; exact a0v hX4 rfl
        have hs5 : W5.heap.size = w3.heap.size + 1:=by rw [hW5,setCells_size]; simp
        have HC5 : Hid (Cs lo W2.heap.size w3.heap.size W5 B1 B2 B3 B4 g v1 (Vs (some ⟨bP,oP,none⟩) l.length cP) v4 s.said pl s.beg ((w.heap.size,#[Vs aS1 W'.m.slots.length cS1,Vs aH1 W'.m.heads.length cH1,Vs aF1 W'.m.free.length cF1,Vs aL1 W'.m.locks.length cL1,Vi Qi W'.m.now,Vs aT1 W'.ts.length cT1]) :: (w.heap.size + 1,#[Vs none 0 0,Vs none 0 0,Vs none 0 0,Vs none 0 0,Vi Qi 0,Vs none 0 0]) :: Zx)):=by
          have hY4:=hC4.z (w.heap.size + 1,#[Vs none 0 0,Vs none 0 0,Vs none 0 0,Vs none 0 0,Vi Qi 0,Vs none 0 0]) (.tail _ (.head _))
          have h2:=(hC4.more (Z':=Zx) (fun q hq => hC4.z q (.tail _ (.tail _ hq)))).off hX4 ho5 (fun q hq => by have:=HZx.out q hq; omega)
          refine h2.more fun q hq => ?_
          simp only [List.mem_cons] at hq
          rcases hq with rfl | rfl | hq
          · exact hX5
          · exact (ho5 _ (by omega)).trans hY4
          · exact h2.z q hq
        have hzx:=HZ2.out.2.2
        have HW5 : Hid (WIn W2.heap.size w3.heap.size W5 (.agg #[Vs aS1 W'.m.slots.length cS1,Vs aH1 W'.m.heads.length cH1,Vs aF1 W'.m.free.length cF1,Vs aL1 W'.m.locks.length cL1,Vi Qi W'.m.now,Vs aT1 W'.ts.length cT1]) W'):=hW4.same fun j h1 h2 => ho5 j (by omega)
        have Hb5 : Hid (Below lo w W5):=by show Below lo w W5; rw [hW5]; exact a0l Hb4.out Hlo.out
        have l9 : Hid (W5.rangeAt w.heap.size 0 [Vs aS1 W'.m.slots.length cS1,Vs aH1 W'.m.heads.length cH1,Vs aF1 W'.m.free.length cF1,Vs aL1 W'.m.locks.length cL1,Vi Qi W'.m.now,Vs aT1 W'.ts.length cT1]):=a0o hX5 rfl
        have HR5 : Hid (PRow W5 (some ⟨bP,oP,none⟩) cP l):=HR.out.low Hb5.out HRk.out
        have HZ5 : Hid (w.heap.size + 1 < W2.heap.size/\w3.heap.size<=W5.heap.size):=⟨hzx,by omega⟩
        subst hoq
        have l7 : Hid ((w3.alloc (.cells #[Vs aS1 W'.m.slots.length cS1,Vs aH1 W'.m.heads.length cH1,Vs aF1 W'.m.free.length cF1,Vs aL1 W'.m.locks.length cL1,Vi Qi W'.m.now,Vs aT1 W'.ts.length cT1] 28)).rangeAt w3.heap.size 0 [Vs aS1 W'.m.slots.length cS1,Vs aH1 W'.m.heads.length cH1,Vs aF1 W'.m.free.length cF1,Vs aL1 W'.m.locks.length cL1,Vi Qi W'.m.now,Vs aT1 W'.ts.length cT1]):=a0o HY4.out rfl
        clear HC2 HW2 HX2 Hb2 Hb3 hb3 hX4 hC4 hW4 Hb4 ho5 hX5 HY4 hv3 b4
        go_wp2_with (first | refine wl_6 rfl _ rfl rfl l7.out ?_ | (refine ws_6 rfl _ _ rfl rfl rfl t8.out (by kernel_rfl) ?_; rw [<- hW5]; clear hW5 t8 l7) | refine wl_6 rfl _ rfl rfl l9.out ?_)
        refine (lit_any lo W2.heap.size w3.heap.size W5 B1 B2 B3 B4 g (some ⟨bP,oP,none⟩) cP l v1 v4 s.said pl s.beg _ W' _ k 0 HC5.out HZ5.out.2 HR5.out HRk.out hlt (by omega) (by omega) HW5.out (fun _ h => by rw [<- Hx.out] at h ⊢; rw [HLn.out.1]; exact HLn.out.2 h) (hN3.trans HLn.out.1.symm)).mono ?_
        rintro e w6 ⟨v15,v45,pl5,rfl,hC5,hpl5,hb5,hw5⟩
        rw [<- Hx.out] at hC5 hpl5
        have HRel : Hid (WIn W2.heap.size w3.heap.size w6 (.agg #[Vs aS1 W'.m.slots.length cS1,Vs aH1 W'.m.heads.length cH1,Vs aF1 W'.m.free.length cF1,Vs aL1 W'.m.locks.length cL1,Vi Qi W'.m.now,Vs aT1 W'.ts.length cT1]) W'/\Below lo w w6/\w3.heap.size<=w6.heap.size):=⟨HW5.out.same hw5,Hb5.out.trans hb5,by have:=HZ5.out.2; have:=hb5.size; omega⟩
        have HC6 : Hid (Cs lo W2.heap.size w3.heap.size w6 B1 B2 B3 B4 g v15 (Vs (some ⟨bP,oP,none⟩) l.length cP) v45 (s.said ++ [0]) pl5 (litB x 0 k s.beg) ((w.heap.size,#[Vs aS1 W'.m.slots.length cS1,Vs aH1 W'.m.heads.length cH1,Vs aF1 W'.m.free.length cF1,Vs aL1 W'.m.locks.length cL1,Vi Qi W'.m.now,Vs aT1 W'.ts.length cT1]) :: (w.heap.size + 1,#[Vs none 0 0,Vs none 0 0,Vs none 0 0,Vs none 0 0,Vi Qi 0,Vs none 0 0]) :: Zx)):=hC5
        have HP5 : Hid (pl5.map (·.1) = litP x 0 k s.beg W' (pl.map (·.1))):=hpl5
        clear hC5 hpl5 hb5 hw5 HC5 HW5 Hb5 l9 HR5
        go_wp2
        go_roundw
        case rel => exact ⟨k + 1,stepR k s x,W2.heap.size,w3.heap.size,v15,v45,pl5,aS1,aH1,aF1,aL1,cS1,cH1,cF1,cL1,aT1,cT1,by omega,by go_num,HrE',by rw [Hst'.out]; exact HIn,by rw [Hst'.out]; exact HC6,by rw [Hst'.out]; exact (HP5.out.trans (by rw [HPl.out])),by rw [Hst'.out]; exact HRel.out.1,HRel.out.2.1,⟨HZ5.out.1,HRel.out.2.2⟩,by rw [Hst'.out]; exact ⟨by simp [hN1],by have:=congrArg List.length HP5.out; rw [List.length_map] at this; have:=litP_len x 0 k s.beg W' (pl.map (·.1)); rw [List.length_map] at this; omega,(litB_len x 0 k s.beg).trans (hN3.trans HLn.out.1.symm)⟩⟩
        case measure => simp [intOf]; omega
    · have hkE : k = l.length:=by omega
      have HsE : Hid (s = sE):=by
        have h1:=HrE.out
        rw [hkE,List.drop_length] at h1
        exact h1
      have l6 : Hid (wr.rangeAt w.heap.size 0 [Vs aS s.w.m.slots.length cS,Vs aH s.w.m.heads.length cH,Vs aF s.w.m.free.length cF,Vs aL s.w.m.locks.length cL,Vi Qi s.w.m.now,Vs aT s.w.ts.length cT]):=a0o HXb.out rfl
      have t6 : Hid (wr.there (w.heap.size + 1) 0 6):=a1a HYb.out (by simp)
      obtain ⟨W5,hW5⟩ : ∃ W5,W5 = wr.setCells (w.heap.size + 1) 0 [Vs aS s.w.m.slots.length cS,Vs aH s.w.m.heads.length cH,Vs aF s.w.m.free.length cF,Vs aL s.w.m.locks.length cL,Vi Qi s.w.m.now,Vs aT s.w.ts.length cT]:=⟨_,rfl⟩
      have ho5 : ∀ j,j ≠ w.heap.size + 1->W5.heap[j]? = wr.heap[j]?:=fun j hj => by rw [hW5]; exact a0e hj _ _ _
      have HX5 : Hid (W5.heap[w.heap.size + 1]? = some (.cells #[Vs aS s.w.m.slots.length cS,Vs aH s.w.m.heads.length cH,Vs aF s.w.m.free.length cF,Vs aL s.w.m.locks.length cL,Vi Qi s.w.m.now,Vs aT s.w.ts.length cT] 28 (0,0))):=by show _ = _; rw [hW5]; exact a0v HYb.out rfl
      have HC5 : Hid (Cs lo 0 0 W5 B1 B2 B3 B4 g v1 (Vs aP l.length cP) v4 s.said pl s.beg Zx):=(HC.out.wide.more (Z':=Zx) (fun q hq => HC.out.z q (.tail _ (.tail _ hq)))).off HYb.out ho5 (fun q hq => by have:=HZx.out q hq; omega)
      have HW5 : Hid (WAns w.heap.size W5 (.agg #[Vs aS s.w.m.slots.length cS,Vs aH s.w.m.heads.length cH,Vs aF s.w.m.free.length cF,Vs aL s.w.m.locks.length cL,Vi Qi s.w.m.now,Vs aT s.w.ts.length cT]) s.w):=(HWi'.out W5 fun j h1 h2 => ho5 j (by have:=HZ.out.1; omega)).mono (by have:=HZ.out.1; omega)
      have Hb5 : Hid (Below lo w W5):=by show Below lo w W5; rw [hW5]; exact a0l Hb.out (by have:=Hlo.out; omega)
      clear ho5 HC HWi' Hb HXb HYb HrE
      go_wp2_with (first | refine wl_6 rfl _ rfl rfl l6.out ?_ | (refine ws_6 rfl _ _ rfl rfl rfl t6.out (by kernel_rfl) ?_; rw [<- hW5]; clear hW5 t6 l6))
      exact bodyPost_ret (results_cell_row Tryz.results79 _ _ (w.heap.size + 1) 28 _ (0,0) _ rfl HX5.out Tryz.underlying28 rfl (by kernel_rfl)) rfl ⟨_,v1,v4,pl,rfl,by rw [<- HsE.out]; exact HC5.out,by rw [<- HsE.out]; exact HPl.out,by rw [<- HsE.out]; exact HW5.out,Hb5.out⟩
end
section
open Go.ChangeShapes Go.WideShapes Go.ChangeAt Go.RowKit Go.Joins Go.Deep Go.Maps
theorem made_ints (n : Nat) : (madeCells (Value.int .i64 0).cells (n * 1)) = (encI ((List.replicate n 0).map Int.ofNat)).toArray:=by
  apply Array.ext'
  rw [Nat.mul_one]
  apply List.ext_getElem?
  intro j
  by_cases hj : j < n
  · simp [madeCells,encI,hj,Value.cells,Nat.mod_one]
  · rw [List.getElem?_eq_none (by simp [madeCells]; omega),List.getElem?_eq_none (by simp [encI]; omega)]
theorem below_same {W : World} {n B i : Nat} {cs : Array Value} {t : TypeId} {v : Value} (h : W.heap[B]? = some (.cells cs t (0,0))) (hv : cs[i]? = some v) : Below n W (W.setCell ⟨B,i,none⟩ v):=by
  have h1 : (W.setCell ⟨B,i,none⟩ v).heap[B]? = W.heap[B]?:=by
    rw [block_setCell (i:=i) h,h]
    congr 2
    apply Array.ext'
    have hi:=(Array.getElem?_eq_some_iff.1 hv).1
    have he:=(Array.getElem?_eq_some_iff.1 hv).2
    apply List.ext_getElem?
    intro j
    by_cases e : i = j
    · subst e; simp [hi,he]
    · simp [e]
  have h2 : Below 0 W (W.setCell ⟨B,i,none⟩ v):=(Below.refl 0 W).setCell (Nat.zero_le _) v
  refine ⟨h2.os,h2.tape,h2.output,h2.size,fun k _ => ?_⟩
  by_cases e : k = B
  · subst e; exact h1
  · exact Below.heap_setCell _ _ _ _ (by dsimp only; exact e)
theorem below_same_list {B : Nat} {t : TypeId} {cs : Array Value} {n : Nat} : ∀ (vs : List Value) (o : Nat) (W : World),W.heap[B]? = some (.cells cs t (0,0))->(∀ j,j < vs.length->cs[o + j]? = vs[j]?)->Below n W (W.setCells B o vs)
  | [],o,W,_,_ => Below.refl _ _
  | v :: vs,o,W,h,hv => by
    have h1 : ∀ m,Below m W (W.setCell ⟨B,o,none⟩ v):=fun m => below_same h (by have:=hv 0 (by simp); simpa using this)
    have h2 : (W.setCell ⟨B,o,none⟩ v).heap[B]? = some (.cells cs t (0,0)):=((h1 W.heap.size).block _ (lt_of_block h)).trans h
    have h3:=below_same_list (n:=n) vs (o + 1) (W.setCell ⟨B,o,none⟩ v) h2 (fun j hj => by have:=hv (j + 1) (by simp; omega); rw [show o + 1 + j = o + (j + 1) by omega]; simpa using this)
    exact (h1 n).trans h3
theorem below_same_all {B : Nat} {t : TypeId} {vs : List Value} {cs : Array Value} {n : Nat} {W : World} (h : W.heap[B]? = some (.cells cs t (0,0))) (e : cs = vs.toArray) : Below n W (W.setCells B 0 vs) :=
  below_same_list vs 0 W h fun j _ => by rw [e]; simp
def actR (x : Nat->Value) : Act:=⟨#[x 0,x 1,x 2,x 3,x 4,x 5,x 6,x 7,x 8,x 9,x 10,x 11,x 12,x 13,x 14,x 15,x 16,x 17,x 18,x 19,x 20,x 21,x 22,x 23,x 24,x 25,x 26,x 27,x 28,x 29,x 30],[]⟩
def RunP (w : World) (s : Rs) (e : Ending) (w' : World) : Prop :=
  ∃ v v1 v4 pl,e = .returned (.tuple #[v,v1,v4,Vi Qi 0])/\WAns w.heap.size w' v s.w/\w'.ownsRow w.heap.size 36 1 v1 s.said.length (encI s.said)/\w'.ownsRow w.heap.size 78 13 v4 pl.length (encP pl)/\(∀ q ∈ pl,KOwn w' w.heap.size q.2.1 q.2.2 q.1.keys)/\pl.map (·.1) = s.past/\Below w.heap.size w w'
set_option maxHeartbeats 4000000 in
theorem run_any {W : Wd} (I : WInv W) (v : Value) (aP : Option Addr) (cP : Nat) (l : List Pk) (w : World) (hv : WAns 0 w v W) (hr : PRow w aP cP l) (hl : l.length<=300) :
    Calls Tryz.prog 35 #[v,Vs aP l.length cP] w (RunP w (runR 0 (rs0 W) l)):=by
  have m1:=hr.max
  have hnt:=I.nt
  have hrl : 0 < l.length->∀ ad,aP = some ad->ad.block < w.heap.size:=fun h0 ad e => by
    rcases hr.at_ with h | ⟨b,o,rfl,hc⟩
    · omega
    · cases e
      exact a0r (hc 0 h0 0 _ rfl)
  have HI : Hid (WInv W):=I
  have HV : Hid (WAns 0 w v W):=hv
  have HR : Hid (PRow w aP cP l):=hr
  have HRl : Hid (0 < l.length->∀ ad,aP = some ad->ad.block < w.heap.size):=hrl
  obtain ⟨sE,hsE⟩ : ∃ sE : Rs,sE = runR 0 (rs0 W) l:=⟨_,rfl⟩
  rw [<- hsE]
  have HsE : Hid (sE = runR 0 (rs0 W) l):=hsE
  obtain ⟨aS,aH,aF,aL,cS,cH,cF,cL,aT,cT,lt,rfl,-⟩:=id hv
  obtain ⟨o0,ho0⟩ : ∃ o : Obj,o = .cells #[Vs aS W.m.slots.length cS,Vs aH W.m.heads.length cH,Vs aF W.m.free.length cF,Vs aL W.m.locks.length cL,Vi Qi W.m.now,Vs aT W.ts.length cT] 28:=⟨_,rfl⟩
  obtain ⟨o1,ho1⟩ : ∃ o : Obj,o = .cells #[Vs aP l.length cP] 54:=⟨_,rfl⟩
  obtain ⟨o2,ho2⟩ : ∃ o : Obj,o = .cells #[Vs none 0 0,Vs none 0 0,Vs none 0 0,Vs none 0 0,Vi Qi 0,Vs none 0 0] 28:=⟨_,rfl⟩
  obtain ⟨o3,ho3⟩ : ∃ o : Obj,o = .cells #[Vs none 0 0] 68:=⟨_,rfl⟩
  obtain ⟨o4,ho4⟩ : ∃ o : Obj,o = .cells #[Vs none 0 0] 69:=⟨_,rfl⟩
  have HE0 : Hid (Env w (((((w.alloc o0).alloc o1).alloc o2).alloc o3).alloc o4) [(w.heap.size + 4,o4),(w.heap.size + 3,o3),(w.heap.size + 2,o2),(w.heap.size + 1,o1),(w.heap.size,o0)] []):=by
    have h:=(((((⟨Below.refl _ _,(fun p hp => by cases hp),(fun p hp => by cases hp)⟩ : Env w w [] []).alloc o0).alloc o1).alloc o2).alloc o3).alloc o4
    rw [show (w.alloc o0).heap.size = w.heap.size + 1 by simp,show ((w.alloc o0).alloc o1).heap.size = w.heap.size + 2 by simp,show (((w.alloc o0).alloc o1).alloc o2).heap.size = w.heap.size + 3 by simp,show ((((w.alloc o0).alloc o1).alloc o2).alloc o3).heap.size = w.heap.size + 4 by simp] at h
    exact h
  clear I hv hr hrl hsE
  go_enter Tryz.func35,Tryz.ntmps35
  have l6 : Hid ((((((w.alloc (.cells #[Vs aS W.m.slots.length cS,Vs aH W.m.heads.length cH,Vs aF W.m.free.length cF,Vs aL W.m.locks.length cL,Vi Qi W.m.now,Vs aT W.ts.length cT] 28)).alloc (.cells #[Vs aP l.length cP] 54)).alloc (.cells #[Vs none 0 0,Vs none 0 0,Vs none 0 0,Vs none 0 0,Vi Qi 0,Vs none 0 0] 28)).alloc (.cells #[Vs none 0 0] 68)).alloc (.cells #[Vs none 0 0] 69)).rangeAt w.heap.size 0 [Vs aS W.m.slots.length cS,Vs aH W.m.heads.length cH,Vs aF W.m.free.length cF,Vs aL W.m.locks.length cL,Vi Qi W.m.now,Vs aT W.ts.length cT]):=by subst ho0 ho1 ho2 ho3 ho4; exact a0o (HE0.out.box _ (.tail _ (.tail _ (.tail _ (.tail _ (.head _)))))) rfl
  go_wp2_with (refine wl_6 rfl _ rfl rfl l6.out ?_)
  rw [<- ho0,<- ho1,<- ho2,<- ho3,<- ho4]
  rw [<- ho0,<- ho1,<- ho2,<- ho3,<- ho4] at l6
  clear l6
  generalize ((((w.alloc o0).alloc o1).alloc o2).alloc o3).alloc o4 = W0 at *
  refine (check_inv HI.out (HV.out.below HE0.out.bl)).mono ?_
  rintro e w1 ⟨rfl,hb1⟩
  have HE1 : Hid (Env w w1 [(w.heap.size + 4,o4),(w.heap.size + 3,o3),(w.heap.size + 2,o2),(w.heap.size + 1,o1),(w.heap.size,o0)] []):=HE0.out.below hb1
  clear HE0 hb1
  subst ho0 ho1 ho2 ho3 ho4
  obtain ⟨n,hn⟩ : ∃ n,n = W.ts.length:=⟨_,rfl⟩
  have Hn : Hid (n = W.ts.length):=hn
  obtain ⟨G,hG⟩ : ∃ G : Array Value,G = (encI ((List.replicate n 0).map Int.ofNat)).toArray:=⟨_,rfl⟩
  obtain ⟨i0,hi0,hz0,hz1,hz2⟩:=info_parts iI
  have hmk : ∀ V : World,(Instr.makeSlice 23 (Vi Qi (W.ts.length : Int)) (Vi Qi (W.ts.length : Int))).run Tryz.prog V = .ok (Vs (some ⟨V.heap.size,0,none⟩) W.ts.length W.ts.length) (V.alloc (.cells G 3)):=fun V => by
    have h:=run_make (P:=Tryz.prog) V 23 3 i0 _ Tryz.underlying23 hi0 hz0 .i64 .i64 (W.ts.length : Int) (W.ts.length : Int) (by omega) (Int.le_refl _) (by rw [hz2]; omega) (by omega)
    simp only [Int.toNat_natCast,hz1] at h
    rw [hG,hn,<- made_ints]; exact h
  have HG : Hid (G = (encI ((List.replicate n 0).map Int.ofNat)).toArray):=hG
  have Hb0:=HE1.out.box (w.heap.size,_) (.tail _ (.tail _ (.tail _ (.tail _ (.head _)))))
  obtain ⟨q1,f1,s1⟩:=a0h (HE1.out.box (w.heap.size + 1,_) (.tail _ (.tail _ (.tail _ (.head _)))))
  obtain ⟨z0,z1,z2,z3,z4,z5,zs⟩:=a2b Hb0
  obtain ⟨oB,hoB⟩ : ∃ o : Obj,o = .cells #[Vs (some ⟨w1.heap.size,0,none⟩) W.ts.length W.ts.length] 23:=⟨_,rfl⟩
  have HE2 : Hid (Env w ((w1.alloc (.cells G 3)).alloc oB) [(w1.heap.size + 1,oB),(w1.heap.size,.cells G 3),(w.heap.size + 4,.cells #[Vs none 0 0] 69),(w.heap.size + 3,.cells #[Vs none 0 0] 68),(w.heap.size + 2,.cells #[Vs none 0 0,Vs none 0 0,Vs none 0 0,Vs none 0 0,Vi Qi 0,Vs none 0 0] 28),(w.heap.size + 1,.cells #[Vs aP l.length cP] 54),(w.heap.size,.cells #[Vs aS W.m.slots.length cS,Vs aH W.m.heads.length cH,Vs aF W.m.free.length cF,Vs aL W.m.locks.length cL,Vi Qi W.m.now,Vs aT W.ts.length cT] 28)] []):=by
    have h:=(HE1.out.alloc (.cells G 3)).alloc oB
    rw [show (w1.alloc (.cells G 3)).heap.size = w1.heap.size + 1 by simp] at h
    exact h
  obtain ⟨W2,hW2⟩ : ∃ W2,W2 = (w1.alloc (.cells G 3)).alloc oB:=⟨_,rfl⟩
  rw [<- hW2] at HE2
  rw [hoB] at hW2 HE2
  have hz1' : w.heap.size<=w1.heap.size:=HE1.out.bl.size
  have l6 : Hid (W2.rangeAt w.heap.size 0 [Vs aS W.m.slots.length cS,Vs aH W.m.heads.length cH,Vs aF W.m.free.length cF,Vs aL W.m.locks.length cL,Vi Qi W.m.now,Vs aT W.ts.length cT]):=a0o (HE2.out.box (w.heap.size,_) (.tail _ (.tail _ (.tail _ (.tail _ (.tail _ (.tail _ (.head _)))))))) rfl
  have q1':=(a0h (HE2.out.box (w.heap.size + 1,_) (.tail _ (.tail _ (.tail _ (.tail _ (.tail _ (.head _)))))))).1
  have HC2 : Hid (Cs w.heap.size 0 0 W2 (w.heap.size + 3) (w.heap.size + 1) (w1.heap.size + 1) (w.heap.size + 4) w1.heap.size (Vs none 0 0) (Vs aP l.length cP) (Vs none 0 0) [] [] (List.replicate W.ts.length 0) [(w.heap.size + 2,#[Vs none 0 0,Vs none 0 0,Vs none 0 0,Vs none 0 0,Vi Qi 0,Vs none 0 0])]):=by
    have hz : ∀ k,Out 0 0 k:=fun k hx => by have:=hx.2; omega
    refine ⟨HE2.out.box (w.heap.size + 3,_) (.tail _ (.tail _ (.tail _ (.head _)))),World.ownsRow_nil _ _ _ _,fun k _ => hz k,?_,?_,hz _,HE2.out.box (w.heap.size + 4,_) (.tail _ (.tail _ (.head _))),World.ownsRow_nil _ _ _ _,fun k _ => hz k,fun q hq => (by cases hq),⟨by omega,hz _⟩,⟨by omega,hz _⟩,⟨by omega,hz _⟩,by omega,HE2.out.box (w.heap.size + 1,_) (.tail _ (.tail _ (.tail _ (.tail _ (.tail _ (.head _)))))),⟨by omega,hz _⟩,?_⟩
    · rw [List.length_replicate]; exact HE2.out.box (w1.heap.size + 1,_) (.head _)
    · rw [<- Hn.out,<- HG.out]; exact HE2.out.box (w1.heap.size,_) (.tail _ (.head _))
    · intro q hq
      rw [List.mem_singleton] at hq
      subst hq
      exact HE2.out.box (w.heap.size + 2,_) (.tail _ (.tail _ (.tail _ (.tail _ (.head _)))))
  have Hb2 : Hid (Below w.heap.size w W2):=HE2.out.bl
  clear hoB hG hn hi0 hz0 hz1 hz2 HE1 HE2 Hb0 Hn HG
  have hl' : (l.length : Int)<=300:=by omega
  go_wp2_with (first | (rw [<- hW2]; refine wl_6 rfl _ rfl rfl l6.out ?_) | refine wl_6 rfl _ rfl rfl l6.out ?_)
  rw [<- hW2]
  clear hW2 l6 hmk z0 z1 z2 z3 z4 z5 zs q1 f1 s1 q1'
  refine (inTurn_run w.heap.size W2 (w.heap.size + 3) (w.heap.size + 1) (w1.heap.size + 1) (w.heap.size + 4) w1.heap.size aP cP l _ _ (List.replicate W.ts.length 0) _ W _ HI.out (HV.out.below Hb2.out) HC2.out (HR.out.below Hb2.out) HRl.out hl (by simp) Hb2.out.size).mono ?_
  rintro e w3 ⟨v3,v1,v4,pl,rfl,hC3,hpl,hv3,hb3⟩
  rw [show runR 0 ⟨W,[],[],List.replicate W.ts.length 0⟩ l = sE from HsE.out.symm] at hC3 hpl hv3
  obtain ⟨aS3,aH3,aF3,aL3,cS3,cH3,cF3,cL3,aT3,cT3,lt3,rfl,-⟩:=id hv3
  have hO3:=hC3.z (w.heap.size + 2,#[Vs none 0 0,Vs none 0 0,Vs none 0 0,Vs none 0 0,Vi Qi 0,Vs none 0 0]) (.head _)
  have t6 : Hid (w3.there (w.heap.size + 2) 0 6):=a1a hO3 (by simp)
  have hz4 : w.heap.size + 4 < W2.heap.size:=lt_of_block HC2.out.p
  have b3 : Below w.heap.size w w3:=Hb2.out.trans hb3
  obtain ⟨W4,hW4⟩ : ∃ W4,W4 = w3.setCells (w.heap.size + 2) 0 [Vs aS3 sE.w.m.slots.length cS3,Vs aH3 sE.w.m.heads.length cH3,Vs aF3 sE.w.m.free.length cF3,Vs aL3 sE.w.m.locks.length cL3,Vi Qi sE.w.m.now,Vs aT3 sE.w.ts.length cT3]:=⟨_,rfl⟩
  have ho4 : ∀ j,j ≠ w.heap.size + 2->W4.heap[j]? = w3.heap[j]?:=fun j hj => by rw [hW4]; exact a0e hj _ _ _
  have HX4 : Hid (W4.heap[w.heap.size + 2]? = some (.cells #[Vs aS3 sE.w.m.slots.length cS3,Vs aH3 sE.w.m.heads.length cH3,Vs aF3 sE.w.m.free.length cF3,Vs aL3 sE.w.m.locks.length cL3,Vi Qi sE.w.m.now,Vs aT3 sE.w.ts.length cT3] 28 (0,0))):=by show _ = _; rw [hW4]; exact a0v hO3 rfl
  have HC4 : Hid (Cs w.heap.size 0 0 W4 (w.heap.size + 3) (w.heap.size + 1) (w1.heap.size + 1) (w.heap.size + 4) w1.heap.size v1 (Vs aP l.length cP) v4 sE.said pl sE.beg []):=(hC3.more (Z':=[]) (fun q hq => by cases hq)).off hO3 ho4 (fun q hq => by cases hq)
  obtain ⟨a1,k1,rfl⟩:=a1l HC4.out.so
  obtain ⟨a4,k4,rfl⟩:=a1l HC4.out.po
  have HV4 : Hid (WAns W2.heap.size W4 (.agg #[Vs aS3 sE.w.m.slots.length cS3,Vs aH3 sE.w.m.heads.length cH3,Vs aF3 sE.w.m.free.length cF3,Vs aL3 sE.w.m.locks.length cL3,Vi Qi sE.w.m.now,Vs aT3 sE.w.ts.length cT3]) sE.w):=hv3.win fun k h1 h2 => ho4 k (by omega)
  have Hb4 : Hid (Below w.heap.size w W4):=by show Below w.heap.size w W4; rw [hW4]; exact a0l b3 (by omega)
  have HPl : Hid (pl.map (·.1) = sE.past):=hpl
  clear hC3 hpl hv3 hb3 b3 ho4 hO3 HC2 Hb2 HV HR
  go_wp2_with (refine ws_6 rfl _ _ rfl rfl rfl t6.out (by kernel_rfl) ?_; rw [<- hW4]; clear hW4 t6)
  rename_i K0 hK0
  refine wp_region_relB (by kernel_rfl) actR rfl [28,29,30,100,101,102,7] (by decide) rfl (by kernel_rfl) (fun i v _ => (i = 0->v = .agg #[Vs aS3 sE.w.m.slots.length cS3,Vs aH3 sE.w.m.heads.length cH3,Vs aF3 sE.w.m.free.length cF3,Vs aL3 sE.w.m.locks.length cL3,Vi Qi sE.w.m.now,Vs aT3 sE.w.ts.length cT3])/\(i = 1->v = Vs a1 sE.said.length k1)/\(i = 2->v = Vs a4 pl.length k4)/\(i = 6->v = Vi Qi 0)) (fun i v w w' h _ => h) ?_ ?_
  · intro i hi x V hb hout hpre
    have hi' : i < 7:=hi
    clear hi
    have hXv:=(hb.block _ (lt_of_block HX4.out)).trans HX4.out
    have HCv:=HC4.out.below hb
    obtain ⟨y0,y1,y2,y3,y4,y5,ys⟩:=a2b hXv
    obtain ⟨c1,d1,-⟩:=a0h HCv.s
    obtain ⟨c4,d4,-⟩:=a0h HCv.p
    have x4 : x 4 = .pointer (some ⟨w.heap.size + 2,0,none⟩):=hout 4 (by decide)
    have x5 : x 5 = .pointer (some ⟨w.heap.size + 3,0,none⟩):=hout 5 (by decide)
    have x6 : x 6 = .pointer (some ⟨w.heap.size + 4,0,none⟩):=hout 6 (by decide)
    obtain rfl | rfl | rfl | rfl | rfl | rfl | rfl : i = 0\/i = 1\/i = 2\/i = 3\/i = 4\/i = 5\/i = 6:=by omega
    · exact a1b rfl (a0n rfl) (v:=.agg #[Vs aS3 sE.w.m.slots.length cS3,Vs aH3 sE.w.m.heads.length cH3,Vs aF3 sE.w.m.free.length cF3,Vs aL3 sE.w.m.locks.length cL3,Vi Qi sE.w.m.now,Vs aT3 sE.w.ts.length cT3]) (w':=V) (by simp [execOp,go_sem,(show (actR x).tmps[4]?.getD undef = _ from x4),y0,y1,y2,y3,y4,y5]) ⟨_,rfl,⟨fun _ => rfl,(fun h => absurd h (by decide)),(fun h => absurd h (by decide)),(fun h => absurd h (by decide))⟩,Below.refl _ _⟩
    · exact a1b rfl (a0n rfl) (v:=Vs a1 sE.said.length k1) (w':=V) (by simp [execOp,go_sem,(show (actR x).tmps[5]?.getD undef = _ from x5),c1]) ⟨_,rfl,⟨(fun h => absurd h (by decide)),fun _ => rfl,(fun h => absurd h (by decide)),(fun h => absurd h (by decide))⟩,Below.refl _ _⟩
    · exact a1b rfl (a0n rfl) (v:=Vs a4 pl.length k4) (w':=V) (by simp [execOp,go_sem,(show (actR x).tmps[6]?.getD undef = _ from x6),c4]) ⟨_,rfl,⟨(fun h => absurd h (by decide)),(fun h => absurd h (by decide)),fun _ => rfl,(fun h => absurd h (by decide))⟩,Below.refl _ _⟩
    · have p0 : x 28 = _:=(hpre 0 (by kernel_rfl)).1 rfl
      have f0:=fun j => unfrozen_of_block hXv j
      exact wpOp_skip rfl (a0n rfl) (w':=V.setCells (w.heap.size + 2) 0 [Vs aS3 sE.w.m.slots.length cS3,Vs aH3 sE.w.m.heads.length cH3,Vs aF3 sE.w.m.free.length cF3,Vs aL3 sE.w.m.locks.length cL3,Vi Qi sE.w.m.now,Vs aT3 sE.w.ts.length cT3]) (by simp [execOp,go_sem,World.setCells,(show (actR x).tmps[4]?.getD undef = _ from x4),(show (actR x).tmps[28]?.getD undef = _ from p0),y0,y1,y2,y3,y4,y5,f0]) ⟨undef,rfl,⟨(fun h => absurd h (by decide)),(fun h => absurd h (by decide)),(fun h => absurd h (by decide)),(fun h => absurd h (by decide))⟩,below_same_all hXv rfl⟩
    · have p0 : x 29 = _:=(hpre 1 (by kernel_rfl)).2.1 rfl
      exact wpOp_skip rfl (a0n rfl) (w':=V.setCell ⟨w.heap.size + 3,0,none⟩ (Vs a1 sE.said.length k1)) (by simp [execOp,go_sem,(show (actR x).tmps[5]?.getD undef = _ from x5),(show (actR x).tmps[29]?.getD undef = _ from p0),c1,d1]) ⟨undef,rfl,⟨(fun h => absurd h (by decide)),(fun h => absurd h (by decide)),(fun h => absurd h (by decide)),(fun h => absurd h (by decide))⟩,below_same HCv.s rfl⟩
    · have p0 : x 30 = _:=(hpre 2 (by kernel_rfl)).2.2.1 rfl
      exact wpOp_skip rfl (a0n rfl) (w':=V.setCell ⟨w.heap.size + 4,0,none⟩ (Vs a4 pl.length k4)) (by simp [execOp,go_sem,(show (actR x).tmps[6]?.getD undef = _ from x6),(show (actR x).tmps[30]?.getD undef = _ from p0),c4,d4]) ⟨undef,rfl,⟨(fun h => absurd h (by decide)),(fun h => absurd h (by decide)),(fun h => absurd h (by decide)),(fun h => absurd h (by decide))⟩,below_same HCv.p rfl⟩
    · exact a1b rfl (a0n rfl) (v:=Vi Qi 0) (w':=V) (by simp [execOp,go_sem]) ⟨_,rfl,⟨(fun h => absurd h (by decide)),(fun h => absurd h (by decide)),(fun h => absurd h (by decide)),fun _ => rfl⟩,Below.refl _ _⟩
  · intro x V hb hout hφ
    have p7 : x 7 = Vi Qi 0:=(hφ 6 (by decide)).2.2.2 rfl
    have x4 : x 4 = .pointer (some ⟨w.heap.size + 2,0,none⟩):=hout 4 (by decide)
    have x5 : x 5 = .pointer (some ⟨w.heap.size + 3,0,none⟩):=hout 5 (by decide)
    have x6 : x 6 = .pointer (some ⟨w.heap.size + 4,0,none⟩):=hout 6 (by decide)
    have hXv:=(hb.block _ (lt_of_block HX4.out)).trans HX4.out
    have HCv : Hid _:=HC4.out.below hb
    have HVv : Hid (WAns w.heap.size V (.agg #[Vs aS3 sE.w.m.slots.length cS3,Vs aH3 sE.w.m.heads.length cH3,Vs aF3 sE.w.m.free.length cF3,Vs aL3 sE.w.m.locks.length cL3,Vi Qi sE.w.m.now,Vs aT3 sE.w.ts.length cT3]) sE.w):=(HV4.out.below hb).mono (by omega)
    have Hbv : Hid (Below w.heap.size w V):=Hb4.out.trans (hb.mono Hb4.out.size)
    obtain ⟨y0,y1,y2,y3,y4,y5,ys⟩:=a2b hXv
    obtain ⟨c1,d1,-⟩:=a0h HCv.out.s
    obtain ⟨c4,d4,-⟩:=a0h HCv.out.p
    refine hK0 _ _ ?_
    unfold actR
    rw [x4,x5,x6,p7]
    go_wp2
    refine bodyPost_ret (v:=.tuple #[.agg #[Vs aS3 sE.w.m.slots.length cS3,Vs aH3 sE.w.m.heads.length cH3,Vs aF3 sE.w.m.free.length cF3,Vs aL3 sE.w.m.locks.length cL3,Vi Qi sE.w.m.now,Vs aT3 sE.w.ts.length cT3],Vs a1 sE.said.length k1,Vs a4 pl.length k4,Vi Qi 0]) (by simp [results,Tryz.results35,go_sem,y0,y1,y2,y3,y4,y5,c1,c4]) rfl ?_
    exact ⟨_,_,_,pl,rfl,HVv.out,HCv.out.so,HCv.out.po,fun q hq => (HCv.out.pk q hq).1,HPl.out,Hbv.out⟩
end
section
open Go.ChangeShapes Go.WideShapes Go.ChangeAt Go.RowKit Go.Joins Go.Deep Go.Maps
def Pk.enc (x : Pk) : List Value:=[Vi Qi x.task,.bool x.step,.bool x.tick,Vi Qi x.c.kind,Vi Qi x.c.a,Vi Qi x.c.b,Vi Qi x.c.time,Vi Qi x.c.bk,Vi Qi x.c.slot]
def encX (l : List Pk) : List Value:=l.flatMap Pk.enc
theorem encX_cons (s : Pk) (l : List Pk) : encX (s :: l) = s.enc ++ encX l:=by simp [encX]
theorem encX_app (l l' : List Pk) : encX (l ++ l') = encX l ++ encX l':=by simp [encX]
theorem encX_get : ∀ (l : List Pk) (i q : Nat) (h : i < l.length) (hq : q < 9),(encX l)[i * 9 + q]? = (l[i].enc)[q]?
  | [],i,q,h,_ => by simp at h
  | s :: l,0,q,h,hq => by
    rw [encX_cons,Nat.zero_mul,Nat.zero_add,List.getElem?_append_left (by simp [Pk.enc]; omega)]; rfl
  | s :: l,i + 1,q,h,hq => by
    rw [encX_cons,List.getElem?_append_right (by simp [Pk.enc]; omega),show (i + 1) * 9 + q - s.enc.length = i * 9 + q by simp [Pk.enc]; omega]
    exact encX_get l i q (by simpa using h) hq
theorem own_get {w : World} {lo size n c : Nat} {e : TypeId} {a : Option Addr} {xs : List Value} (h : w.ownsRow lo e size (Vs a n c) n xs) (h0 : 0 < n) : ∃ g,a = some ⟨g,0,none⟩/\n<=c/\lo<=g/\g < w.heap.size/\∀ j,j < n * size->w.cell? ⟨g,j,none⟩ = xs[j]?:=by
  obtain ⟨h1,h2⟩:=h
  rcases h2 with ⟨-,h3⟩ | ⟨g,cap,cur,hv,hg,hb,hn,-,hs,hc⟩
  · omega
  · cases hv
    refine ⟨g,rfl,hn,hg,lt_of_block hb,fun j hj => ?_⟩
    rw [cell_of_block hb,<- hc,List.getElem?_take_of_lt hj]
    simp
theorem PRow.own {w : World} {lo c : Nat} {a : Option Addr} {l : List Pk} (h : w.ownsRow lo 34 9 (Vs a l.length c) l.length (encX l)) (hm : l.length * 64<=140737488355328) : PRow w a c l:=by
  by_cases h0 : l.length = 0
  · obtain ⟨-,h2⟩:=h
    rcases h2 with ⟨hv,-⟩ | ⟨g,cap,cur,hv,-,-,hn,-⟩
    · injection hv with e1 e2 e3
      subst e1 e3
      exact ⟨by omega,hm,fun _ => rfl,.inl h0⟩
    · injection hv with e1 e2 e3
      subst e1 e3
      exact ⟨hn,hm,(fun e => by cases e),.inl h0⟩
  · obtain ⟨g,rfl,hn,-,-,hc⟩:=own_get h (by omega)
    refine ⟨hn,hm,(fun e => by cases e),.inr ⟨g,0,rfl,fun i hi j v hv => ?_⟩⟩
    have hj : j < 9:=by have:=(List.getElem?_eq_some_iff.1 hv).1; simpa using this
    rw [Nat.zero_add,hc (i * 9 + j) (by omega),encX_get l i j hi hj]
    exact hv
theorem own_new (W : World) (e : TypeId) (size n lo : Nat) (cs : List Value) (hl : cs.length = n * size) (hn : n<=maxLen) (h : lo<=W.heap.size) : (W.alloc (.cells cs.toArray e)).ownsRow lo e size (Vs (some ⟨W.heap.size,0,none⟩) n n) n cs :=
  ⟨hl,.inr ⟨W.heap.size,n,cs.toArray,rfl,h,heap_alloc_new _ _,Nat.le_refl _,hn,by simpa using hl,by rw [<- hl]; simp⟩⟩
theorem iX : (Tryz.prog.info? 34).map (fun i => (i.zero,i.size,i.bytes)) = some (some (.agg #[Vi Qi 0,.bool false,.bool false,Vi Qi 0,Vi Qi 0,Vi Qi 0,Vi Qi 0,Vi Qi 0,Vi Qi 0]),9,64):=by kernel_rfl
def pk1 : Pk:=⟨0,false,false,⟨2,3,0,5,0,0⟩⟩
def pk2 : Pk:=⟨1,false,false,⟨1,3,0,0,0,0⟩⟩
def pk3 : Pk:=⟨1,true,false,⟨0,0,0,0,0,0⟩⟩
def pk0 : Pk:=⟨0,true,false,⟨0,0,0,0,0,0⟩⟩
def pkT : Pk:=⟨0,false,true,⟨0,0,0,0,0,0⟩⟩
def plS (k : Nat) : List Pk:=[pk1,pk2,pk3] ++ List.replicate k pk0
def plE : Rs:=runR 0 (rs0 (newW 2 1 2)) (plS 6 ++ [pk3,pk3,pkT])
theorem plE_said : plE.said = [0,0,0,0,0,0,0,0,0,0,8,0]:=by decide +kernel
theorem plE_past : plE.past.map (fun p => (p.e,p.task,p.to)) = [(0,0,8),(5,1,9)]:=by decide +kernel
theorem plE_now : plE.w.m.now = 1:=by decide +kernel
theorem plE_flows : (a2s plE.w.m).length = 1:=by decide +kernel
theorem runR_w : ∀ (l : List Pk) (n : Nat) (s : Rs),(runR n s l).w = runW s.w l
  | [],_,_ => rfl
  | x :: l,n,s => by show (runR (n + 1) (stepR n s x) l).w = _; rw [runR_w l,stepR_w]; rfl
theorem runR_inv {W : Wd} (I : WInv W) (l : List Pk) : WInv (runR 0 (rs0 W) l).w:=by rw [runR_w]; exact run_inv l I
theorem plS_step (k : Nat) : plS (k + 1) = plS k ++ [pk0]:=by unfold plS; rw [List.append_assoc,List.replicate_succ']
theorem two_of {α : Type} : ∀ {l : List α},l.length = 2->∃ a b,l = [a,b]
  | [a,b],_ => ⟨a,b,rfl⟩
  | [],h => by cases h
  | [_],h => by cases h
  | _ :: _ :: _ :: _,h => by simp at h
set_option maxHeartbeats 1000000 in
theorem played_any : Played:=by
  intro w
  have HN:=newW_any 2 1 2 w
  obtain ⟨i0,hi0,hz0,hz1,hz2⟩:=info_parts iX
  go_enter Tryz.func18,Tryz.ntmps18
  go_wp2_with fail
  refine HN.mono ?_
  rintro e w1 ⟨v,rfl,hv,hb1⟩
  rw [show newWE 2 1 2 = 0 by decide,if_pos rfl,show newW (2 : Int).toNat (1 : Int).toNat (2 : Int).toNat = newW 2 1 2 from rfl] at *
  have HI : Hid (WInv (newW 2 1 2)):=new_inv (by omega) (by omega) (by omega)
  have HsE : Hid (plE = runR 0 (rs0 (newW 2 1 2)) (plS 6 ++ [pk3,pk3,pkT])):=rfl
  generalize newW 2 1 2 = W0 at *
  obtain ⟨aS,aH,aF,aL,cS,cH,cF,cL,aT,cT,lt,rfl,-⟩:=id hv
  clear HN
  have HV1 : Hid (WAns w.heap.size w1 (.agg #[Vs aS W0.m.slots.length cS,Vs aH W0.m.heads.length cH,Vs aF W0.m.free.length cF,Vs aL W0.m.locks.length cL,Vi Qi W0.m.now,Vs aT W0.ts.length cT]) W0):=hv
  have Hb1 : Hid (Below w.heap.size w w1):=hb1
  have hz : w.heap.size<=w1.heap.size:=hb1.size
  clear hv hb1
  have HRun : Hid (∀ (V : World) (v : Value) (a : Option Addr) (c lo : Nat),V.ownsRow lo 34 9 (Vs a 12 c) 12 (encX (plS 6 ++ [pk3,pk3,pkT]))->WAns 0 V v W0->Calls Tryz.prog 35 #[v,Vs a 12 c] V (RunP V plE)):=fun V v a c lo h hv => by
    rw [HsE.out]
    exact run_any HI.out v a c (plS 6 ++ [pk3,pk3,pkT]) V hv (PRow.own h (by decide)) (by decide)
  have HIe : Hid (WInv plE.w):=by show WInv plE.w; rw [HsE.out]; exact runR_inv HI.out _
  go_wp2_with fail
  obtain ⟨W2,hW2⟩ : ∃ W2,W2 = (w1.alloc (.cells #[Vs aS W0.m.slots.length cS,Vs aH W0.m.heads.length cH,Vs aF W0.m.free.length cF,Vs aL W0.m.locks.length cL,Vi Qi W0.m.now,Vs aT W0.ts.length cT] 28)).alloc (.cells #[Vi Qi 3,Vi Qi 0] 30):=⟨_,rfl⟩
  have b2 : Below w1.heap.size w1 W2:=by rw [hW2]; exact below_alloc2 _ _ _
  have HX2 : Hid (W2.heap[w1.heap.size]? = some (.cells #[Vs aS W0.m.slots.length cS,Vs aH W0.m.heads.length cH,Vs aF W0.m.free.length cF,Vs aL W0.m.locks.length cL,Vi Qi W0.m.now,Vs aT W0.ts.length cT] 28 (0,0))):=by show _ = _; rw [hW2,Below.heap_alloc _ _ _ (by simp),heap_alloc_new]
  have HZ2 : Hid (W2.heap.size = w1.heap.size + 2):=by show _ = _; rw [hW2]; simp
  have HV2 : Hid (WAns w.heap.size W2 (.agg #[Vs aS W0.m.slots.length cS,Vs aH W0.m.heads.length cH,Vs aF W0.m.free.length cF,Vs aL W0.m.locks.length cL,Vi Qi W0.m.now,Vs aT W0.ts.length cT]) W0):=HV1.out.below b2
  have Hb2 : Hid (Below w.heap.size w W2):=Hb1.out.trans (b2.mono hz)
  rw [<- hW2]
  clear hW2 b2 HV1 Hb1
  have HO3 : Hid ((W2.alloc (.cells (encX (plS 0)).toArray 34)).ownsRow (w1.heap.size + 2) 34 9 (Vs (some ⟨w1.heap.size + 2,0,none⟩) 3 3) 3 (encX (plS 0))):=by
    have h:=own_new W2 34 9 3 (w1.heap.size + 2) (encX (plS 0)) rfl (by decide) (by have:=HZ2.out; omega)
    rw [HZ2.out] at h
    exact h
  have Hb3 : Hid (Below (w1.heap.size + 2) W2 (W2.alloc (.cells (encX (plS 0)).toArray 34))):=(Below.refl _ _).alloc (by have:=HZ2.out; omega) _
  go_loopw [4,23] (fun s i wr => ∃ (k : Nat) (a : Option Addr) (c : Nat),k<=6/\i = Vi Qi k/\s = Vs a (3 + k) c/\Hid (wr.ownsRow (w1.heap.size + 2) 34 9 (Vs a (3 + k) c) (3 + k) (encX (plS k)))/\Hid (Below (w1.heap.size + 2) W2 wr)) (fun _ i _ => 6 - (intOf i).toNat)
  case atStart => exact ⟨0,some ⟨w1.heap.size + 2,0,none⟩,3,by omega,rfl,rfl,HO3,Hb3⟩
  case round =>
    obtain ⟨k,a,c,hk,rfl,rfl,HO,Hb⟩:=hrel
    clear HO3 Hb3
    by_cases hlt : k < 6
    · have hlt' : (k : Int) < 6:=by omega
      have HC : Hid (∀ j u,[Vi Qi 0,.bool true,.bool false,Vi Qi 0,Vi Qi 0,Vi Qi 0,Vi Qi 0,Vi Qi 0,Vi Qi 0][j]? = some u->(wr.alloc (.cells #[Vi Qi 0,.bool true,.bool false,Vi Qi 0,Vi Qi 0,Vi Qi 0,Vi Qi 0,Vi Qi 0,Vi Qi 0] 34)).cell? ((⟨wr.heap.size,0,none⟩ : Addr).add j) = some u):=cells_past (vs:=[Vi Qi 0,.bool true,.bool false,Vi Qi 0,Vi Qi 0,Vi Qi 0,Vi Qi 0,Vi Qi 0,Vi Qi 0]) (heap_alloc_new _ _)
      have HS : Hid (w1.heap.size + 2<=wr.heap.size):=by have:=Hb.out.size; have:=HZ2.out; show _<=_; omega
      have HBw : Hid (∀ w2 : World,(wr.alloc (.cells #[Vi Qi 0,.bool true,.bool false,Vi Qi 0,Vi Qi 0,Vi Qi 0,Vi Qi 0,Vi Qi 0,Vi Qi 0] 34)).grownBy w2 (Value.slice a (3 + k) c).ownBlock->Below (w1.heap.size + 2) W2 w2):=fun w2 hg => (Hb.out.alloc HS.out _).grown hg (by have:=HS.out; simp; omega) (fun q hq => (HO.out.lt q hq).1)
      go_wp2_with (at_builtin; refine wpList_append_own_at _ rfl (.tmp 25) (.tmp 27) 54 rfl (w1.heap.size + 2) 34 i0 (.agg #[Vi Qi 0,.bool false,.bool false,Vi Qi 0,Vi Qi 0,Vi Qi 0,Vi Qi 0,Vi Qi 0,Vi Qi 0]) 9 64 Tryz.underlying54 hi0 hz0 hz1 hz2 rfl (by decide) _ _ _ rfl (HO.out.alloc _) ⟨wr.heap.size,0,none⟩ 1 1 [Vi Qi 0,.bool true,.bool false,Vi Qi 0,Vi Qi 0,Vi Qi 0,Vi Qi 0,Vi Qi 0,Vi Qi 0] rfl rfl HC.out (by intro u hu; simp only [List.mem_cons,List.not_mem_nil,or_false] at hu; rcases hu with rfl | rfl | rfl | rfl | rfl | rfl | rfl | rfl | rfl <;> rfl) (by unfold maxLen; omega) (by omega) (by have:=HS.out; simp; omega) ?_; intro v2 w2 ho2 hg2 _ _; obtain ⟨g2,cap2,rfl⟩:=ownsRow_form ho2 (by omega); have HO2 : Hid (w2.ownsRow (w1.heap.size + 2) 34 9 (Vs (some ⟨g2,0,none⟩) (3 + k + 1) cap2) (3 + k + 1) (encX (plS k) ++ [Vi Qi 0,.bool true,.bool false,Vi Qi 0,Vi Qi 0,Vi Qi 0,Vi Qi 0,Vi Qi 0,Vi Qi 0])):=ho2; have Hb2' : Hid (Below (w1.heap.size + 2) W2 w2):=HBw.out w2 hg2; clear ho2 hg2)
      go_roundw
      case rel => exact ⟨k + 1,some ⟨g2,0,none⟩,cap2,by omega,by go_num,rfl,by rw [plS_step,encX_app]; exact HO2,Hb2'⟩
      case measure => simp [intOf]; omega
    · have hk6 : k = 6:=by omega
      subst hk6
      have HO9 : Hid (wr.ownsRow (w1.heap.size + 2) 34 9 (Vs a 9 c) 9 (encX (plS 6))):=HO.out
      have HC : Hid (∀ j u,[Vi Qi 1,.bool true,.bool false,Vi Qi 0,Vi Qi 0,Vi Qi 0,Vi Qi 0,Vi Qi 0,Vi Qi 0,Vi Qi 1,.bool true,.bool false,Vi Qi 0,Vi Qi 0,Vi Qi 0,Vi Qi 0,Vi Qi 0,Vi Qi 0,Vi Qi 0,.bool false,.bool true,Vi Qi 0,Vi Qi 0,Vi Qi 0,Vi Qi 0,Vi Qi 0,Vi Qi 0][j]? = some u->(wr.alloc (.cells #[Vi Qi 1,.bool true,.bool false,Vi Qi 0,Vi Qi 0,Vi Qi 0,Vi Qi 0,Vi Qi 0,Vi Qi 0,Vi Qi 1,.bool true,.bool false,Vi Qi 0,Vi Qi 0,Vi Qi 0,Vi Qi 0,Vi Qi 0,Vi Qi 0,Vi Qi 0,.bool false,.bool true,Vi Qi 0,Vi Qi 0,Vi Qi 0,Vi Qi 0,Vi Qi 0,Vi Qi 0] 34)).cell? ((⟨wr.heap.size,0,none⟩ : Addr).add j) = some u):=cells_past (vs:=[Vi Qi 1,.bool true,.bool false,Vi Qi 0,Vi Qi 0,Vi Qi 0,Vi Qi 0,Vi Qi 0,Vi Qi 0,Vi Qi 1,.bool true,.bool false,Vi Qi 0,Vi Qi 0,Vi Qi 0,Vi Qi 0,Vi Qi 0,Vi Qi 0,Vi Qi 0,.bool false,.bool true,Vi Qi 0,Vi Qi 0,Vi Qi 0,Vi Qi 0,Vi Qi 0,Vi Qi 0]) (heap_alloc_new _ _)
      have HS : Hid (w1.heap.size + 2<=wr.heap.size):=by have:=Hb.out.size; have:=HZ2.out; show _<=_; omega
      have HBw : Hid (∀ w2 : World,(wr.alloc (.cells #[Vi Qi 1,.bool true,.bool false,Vi Qi 0,Vi Qi 0,Vi Qi 0,Vi Qi 0,Vi Qi 0,Vi Qi 0,Vi Qi 1,.bool true,.bool false,Vi Qi 0,Vi Qi 0,Vi Qi 0,Vi Qi 0,Vi Qi 0,Vi Qi 0,Vi Qi 0,.bool false,.bool true,Vi Qi 0,Vi Qi 0,Vi Qi 0,Vi Qi 0,Vi Qi 0,Vi Qi 0] 34)).grownBy w2 (Value.slice a 9 c).ownBlock->Below (w1.heap.size + 2) W2 w2):=fun w2 hg => (Hb.out.alloc HS.out _).grown hg (by have:=HS.out; simp; omega) (fun q hq => (HO9.out.lt q hq).1)
      go_wp2_with (first | (at_builtin; refine wpList_append_own_at _ rfl (.tmp 30) (.tmp 34) 54 rfl (w1.heap.size + 2) 34 i0 (.agg #[Vi Qi 0,.bool false,.bool false,Vi Qi 0,Vi Qi 0,Vi Qi 0,Vi Qi 0,Vi Qi 0,Vi Qi 0]) 9 64 Tryz.underlying54 hi0 hz0 hz1 hz2 rfl (by decide) _ _ _ rfl (HO9.out.alloc _) ⟨wr.heap.size,0,none⟩ 3 3 [Vi Qi 1,.bool true,.bool false,Vi Qi 0,Vi Qi 0,Vi Qi 0,Vi Qi 0,Vi Qi 0,Vi Qi 0,Vi Qi 1,.bool true,.bool false,Vi Qi 0,Vi Qi 0,Vi Qi 0,Vi Qi 0,Vi Qi 0,Vi Qi 0,Vi Qi 0,.bool false,.bool true,Vi Qi 0,Vi Qi 0,Vi Qi 0,Vi Qi 0,Vi Qi 0,Vi Qi 0] rfl rfl HC.out (by intro u hu; simp only [List.mem_cons,List.not_mem_nil,or_false] at hu; rcases hu with rfl | rfl | rfl | rfl | rfl | rfl | rfl | rfl | rfl | rfl | rfl | rfl | rfl | rfl | rfl | rfl | rfl | rfl | rfl | rfl | rfl | rfl | rfl | rfl | rfl | rfl | rfl <;> rfl) (by unfold maxLen; omega) (by omega) (by have:=HS.out; simp; omega) ?_; intro v2 w2 ho2 hg2 _ _; obtain ⟨g2,cap2,rfl⟩:=ownsRow_form ho2 (by omega); have HO2 : Hid (w2.ownsRow (w1.heap.size + 2) 34 9 (Vs (some ⟨g2,0,none⟩) 12 cap2) 12 (encX (plS 6 ++ [pk3,pk3,pkT]))):=(by show World.ownsRow _ _ _ _ _ _ _; rw [encX_app]; exact ho2); have Hb3 : Hid (Below W2.heap.size W2 w2):=(by show Below _ _ _; rw [HZ2.out]; exact HBw.out w2 hg2); have l6 : Hid (w2.rangeAt w1.heap.size 0 [Vs aS W0.m.slots.length cS,Vs aH W0.m.heads.length cH,Vs aF W0.m.free.length cF,Vs aL W0.m.locks.length cL,Vi Qi W0.m.now,Vs aT W0.ts.length cT]):=a0o ((Hb3.out.block _ (lt_of_block HX2.out)).trans HX2.out) rfl; clear ho2 hg2) | refine wl_6 rfl _ rfl rfl l6.out ?_)
      have HX3 : Hid (w2.heap[w1.heap.size]? = _):=(Hb3.out.block _ (lt_of_block HX2.out)).trans HX2.out
      have Hb4 : Hid (Below w.heap.size w w2):=Hb2.out.trans (Hb3.out.mono (by have:=HZ2.out; omega))
      refine (HRun.out w2 _ (some ⟨g2,0,none⟩) cap2 _ HO2.out ((HV2.out.below Hb3.out).mono (Nat.zero_le _))).mono ?_
      rintro e w5 ⟨v5,v15,v45,pl,rfl,hv5,ho15,ho45,-,hpl5,hb5⟩
      rw [plE_said] at ho15
      have hpl2 : pl.map (fun q => (q.1.e,q.1.task,q.1.to)) = [(0,0,8),(5,1,9)]:=by
        have h:=plE_past
        rw [<- hpl5,List.map_map] at h
        exact h
      have hnow : Hid (plE.w.m.now = 1):=plE_now
      have hfl : Hid ((a2s plE.w.m).length = 1):=plE_flows
      have HX5 : Hid (w5.heap[w1.heap.size]? = _):=(hb5.block _ (lt_of_block HX3.out)).trans HX3.out
      have hxz : w1.heap.size < w2.heap.size:=lt_of_block HX3.out
      generalize plE = sE at *
      clear hpl5 HsE HRun HO9 HC HBw HO HO2 HX3 HX2 HV2 Hb3 l6 Hb HS Hb2
      obtain ⟨a1,k1,rfl⟩:=a1l ho15
      obtain ⟨g1,rfl,hk1,hg1,-,hc1⟩:=own_get ho15 (by decide)
      obtain ⟨q0,q1,rfl⟩ : ∃ q0 q1,pl = [q0,q1]:=two_of (by have h:=congrArg List.length hpl2; rw [List.length_map] at h; exact h)
      simp only [List.map_cons,List.map_nil,List.cons.injEq,Prod.mk.injEq,and_true] at hpl2
      obtain ⟨⟨e0,e1,-⟩,e2,-,e3⟩:=hpl2
      obtain ⟨a4,k4,rfl⟩:=a1l ho45
      obtain ⟨g4,rfl,hk4,hg4,-,hc4⟩:=own_get ho45 (by simp)
      have c10 : w5.cell? ⟨g1,10,none⟩ = some (Vi Qi 8):=hc1 10 (by decide)
      have d0 : w5.cell? ⟨g4,0,none⟩ = some (Vi Qi 0):=by rw [hc4 0 (by simp),<- e1]; rfl
      have d9 : w5.cell? ⟨g4,9,none⟩ = some (Vi Qi 0):=by rw [hc4 9 (by simp),<- e0]; rfl
      have d22 : w5.cell? ⟨g4,22,none⟩ = some (Vi Qi 5):=by rw [hc4 22 (by simp),<- e2]; rfl
      have d21 : w5.cell? ⟨g4,21,none⟩ = some (Vi Qi 9):=by rw [hc4 21 (by simp),show (9 : Int) = ((q1.1.to : Nat) : Int) by rw [e3]; rfl]; rfl
      obtain ⟨aS5,aH5,aF5,aL5,cS5,cH5,cF5,cL5,aT5,cT5,lt5,rfl,-⟩:=id hv5
      obtain ⟨W6,hW6⟩ : ∃ W6,W6 = w5.setCells w1.heap.size 0 [Vs aS5 sE.w.m.slots.length cS5,Vs aH5 sE.w.m.heads.length cH5,Vs aF5 sE.w.m.free.length cF5,Vs aL5 sE.w.m.locks.length cL5,Vi Qi sE.w.m.now,Vs aT5 sE.w.ts.length cT5]:=⟨_,rfl⟩
      have ho6 : ∀ k,k ≠ w1.heap.size->W6.heap[k]? = w5.heap[k]?:=fun k hk => by rw [hW6]; exact a0e hk _ _ _
      have HX6 : Hid (W6.heap[w1.heap.size]? = some (.cells #[Vs aS5 sE.w.m.slots.length cS5,Vs aH5 sE.w.m.heads.length cH5,Vs aF5 sE.w.m.free.length cF5,Vs aL5 sE.w.m.locks.length cL5,Vi Qi sE.w.m.now,Vs aT5 sE.w.ts.length cT5] 28 (0,0))):=by show _ = _; rw [hW6]; exact a0v HX5.out rfl
      have HV6 : Hid (WAns w2.heap.size W6 (.agg #[Vs aS5 sE.w.m.slots.length cS5,Vs aH5 sE.w.m.heads.length cH5,Vs aF5 sE.w.m.free.length cF5,Vs aL5 sE.w.m.locks.length cL5,Vi Qi sE.w.m.now,Vs aT5 sE.w.ts.length cT5]) sE.w):=hv5.win fun k h1 h2 => ho6 k (by omega)
      have Hb6 : Hid (Below w.heap.size w W6):=by show Below w.heap.size w W6; rw [hW6]; exact a0l (Hb4.out.trans (hb5.mono Hb4.out.size)) hz
      have t6 : Hid (w5.there w1.heap.size 0 6):=a1a HX5.out (by simp)
      have l6 : Hid (W6.rangeAt w1.heap.size 0 [Vs aS5 sE.w.m.slots.length cS5,Vs aH5 sE.w.m.heads.length cH5,Vs aF5 sE.w.m.free.length cF5,Vs aL5 sE.w.m.locks.length cL5,Vi Qi sE.w.m.now,Vs aT5 sE.w.ts.length cT5]):=a0o HX6.out rfl
      have hc6 : ∀ g j,w2.heap.size<=g->W6.cell? ⟨g,j,none⟩ = w5.cell? ⟨g,j,none⟩:=fun g j hg => World.cell?_of_block (ho6 g (by omega))
      have C10 : Hid (W6.cell? ⟨g1,10,none⟩ = some (Vi Qi 8)/\W6.cell? ⟨g4,0,none⟩ = some (Vi Qi 0)/\W6.cell? ⟨g4,9,none⟩ = some (Vi Qi 0)/\W6.cell? ⟨g4,22,none⟩ = some (Vi Qi 5)/\W6.cell? ⟨g4,21,none⟩ = some (Vi Qi 9)):=⟨(hc6 _ _ hg1).trans c10,(hc6 _ _ hg4).trans d0,(hc6 _ _ hg4).trans d9,(hc6 _ _ hg4).trans d22,(hc6 _ _ hg4).trans d21⟩
      clear hc1 hc4 c10 d0 d9 d22 d21 e0 e1 e2 e3 ho15 ho45 hv5 hb5 ho6 hc6 HX5 Hb4
      go_wp2_with (first | (refine ws_6 rfl _ _ rfl rfl rfl t6.out (by kernel_rfl) ?_; rw [<- hW6]; clear hW6 t6) | refine wl_6 rfl _ rfl rfl l6.out ?_)
      refine (flows_inv HIe.out HV6.out).mono ?_
      rw [hfl.out]
      rintro e w7 ⟨ao,cap,rfl,-,hb7⟩
      have hX7:=(hb7.block _ (lt_of_block HX6.out)).trans HX6.out
      obtain ⟨y0,y1,y2,y3,y4,y5,ys⟩:=a2b hX7
      rw [hnow.out] at y4
      have g10:=(bcell hb7).1 g1 10 (a0r C10.out.1)
      have f0:=((bcell hb7).1 g4 0 (a0r C10.out.2.1)).trans C10.out.2.1
      have f9:=((bcell hb7).1 g4 9 (a0r C10.out.2.1)).trans C10.out.2.2.1
      have f22:=((bcell hb7).1 g4 22 (a0r C10.out.2.1)).trans C10.out.2.2.2.1
      have f21:=((bcell hb7).1 g4 21 (a0r C10.out.2.1)).trans C10.out.2.2.2.2
      rw [C10.out.1] at g10
      have Hb7 : Hid (Below w.heap.size w w7):=Hb6.out.trans (hb7.mono Hb6.out.size)
      clear hb7 hX7 l6 HX6 HV6 Hb6 C10 hnow hfl y0 y1 y2 y3 y5 hg1 hg4
      go_wp2
      go_ret
      exact ⟨rfl,Hb7.out⟩
end
end Go.Proofs.YthhgoenomehobaaGreat.mm
