/- Parts. -/
import Derived.Test.YthhgoenomehobaaGreatE45
import Derived.Test.YthhgoenomehobaaGreatE03
import Derived.Test.YthhgoenomehobaaGreatE02
import Derived.Test.YthhgoenomehobaaGreatE10
namespace Go.Proofs.YthhgoenomehobaaGreat.mm
set_option maxRecDepth 100000
set_option linter.unusedVariables false
open Go.Value renaming int → Vi, slice → Vs
open Go.IntKind renaming i64 → Qi
section
open Go.ChangeShapes Go.WideShapes Go.ChangeAt Go.RowKit Go.Joins Go.Deep Go.Maps
structure PRow (w : World) (ao : Option Addr) (cap : Nat) (l : List Pk) : Prop where
  le : l.length<=cap
  max : l.length * 64<=140737488355328
  nil : ao = none->cap = 0
  at_ : l.length = 0\/∃ b o,ao = some ⟨b,o,none⟩/\∀ i (h : i < l.length),w.rangeAt b (o + i * 9) [Vi Qi (l[i]).task,.bool (l[i]).step,.bool (l[i]).tick,Vi Qi ((l[i]).c).kind,Vi Qi ((l[i]).c).a,Vi Qi ((l[i]).c).b,Vi Qi ((l[i]).c).time,Vi Qi ((l[i]).c).bk,Vi Qi ((l[i]).c).slot]
theorem PRow.below {w w' : World} {ao : Option Addr} {cap : Nat} {l : List Pk} (r : PRow w ao cap l) (hb : Below w.heap.size w w') : PRow w' ao cap l:=by
  refine ⟨r.le,r.max,r.nil,?_⟩
  rcases r.at_ with h | ⟨b,o,h,hc⟩
  · exact .inl h
  · refine .inr ⟨b,o,h,fun i hi => ?_⟩
    have h0:=hc i hi 0 _ rfl
    exact a2w (hc i hi) hb (a0m h0)
def Asks (F : Nat) : Prop:=∀ (W : Wd) (x : Pk) (V : World) (v v' : Value),WInv W->doE W x = 0->WAns 0 V v W->WAns 0 V v' (doW W x)->Calls Tryz.prog F #[v,v'] V fun e V' => e = .returned (.bool true)/\Below V.heap.size V V'
def WBox (w : World) (X : Nat) (W : Wd) : Prop :=
  ∃ aS aH aF aL cS cH cF cL aT cT lt,w.heap[X]? = some (.cells #[Vs aS W.m.slots.length cS,Vs aH W.m.heads.length cH,Vs aF W.m.free.length cF,Vs aL W.m.a0b.length cL,Vi Qi W.m.now,Vs aT W.ts.length cT] 28 (0,0))/\At w aS aH aF aL cS cH cF cL W.m/\W.ts = lt.map (·.1)/\TRow w aT cT lt
theorem WBox.below {w w' : World} {X : Nat} {W : Wd} (h : WBox w X W) (hb : Below w.heap.size w w') : WBox w' X W:=by
  obtain ⟨aS,aH,aF,aL,cS,cH,cF,cL,aT,cT,lt,h1,h2,h3,h4⟩:=h
  exact ⟨aS,aH,aF,aL,cS,cH,cF,cL,aT,cT,lt,(hb.block _ (lt_of_block h1)).trans h1,h2.below hb,h3,h4.below hb⟩
theorem WAns.wbox {lo : Nat} {w : World} {X : Nat} {W : Wd} {aS aH aF aL : Option Addr} {cS cH cF cL : Nat} {aT : Option Addr} {cT : Nat} {cs : Array Value} (h : WAns lo w (.agg #[Vs aS W.m.slots.length cS,Vs aH W.m.heads.length cH,Vs aF W.m.free.length cF,Vs aL W.m.a0b.length cL,Vi Qi W.m.now,Vs aT W.ts.length cT]) W) (hX : X < lo) (hB : w.heap[X]? = some (.cells cs 28 (0,0))) (hc : cs.size = 6) :
    WBox (w.setCells X 0 [Vs aS W.m.slots.length cS,Vs aH W.m.heads.length cH,Vs aF W.m.free.length cF,Vs aL W.m.a0b.length cL,Vi Qi W.m.now,Vs aT W.ts.length cT]) X W:=by
  obtain ⟨bS,bH,bF,bL,dS,dH,dF,dL,bT,dT,lt,e,A,hi,hts,hT,hTh⟩:=h
  have ho : ∀ k,k ≠ X->(w.setCells X 0 [Vs aS W.m.slots.length cS,Vs aH W.m.heads.length cH,Vs aF W.m.free.length cF,Vs aL W.m.a0b.length cL,Vi Qi W.m.now,Vs aT W.ts.length cT]).heap[k]? = w.heap[k]?:=fun k hk => a0f hk _ _ _
  refine ⟨bS,bH,bF,bL,dS,dH,dF,dL,bT,dT,lt,?_,A.off hi hX ho,hts,?_⟩
  · have h1:=a1c (vs:=[Vs aS W.m.slots.length cS,Vs aH W.m.heads.length cH,Vs aF W.m.free.length cF,Vs aL W.m.a0b.length cL,Vi Qi W.m.now,Vs aT W.ts.length cT]) hB (by rw [hc]; rfl)
    exact h1.trans (congrArg (fun c => some (Obj.cells c 28 (0,0))) (Value.agg.inj e))
  · refine ⟨hT.le,hT.max,hT.nil,?_,fun p hp => a1v (hT.keys p hp) fun _ ad e _ => ho _ (by have:=hTh.keys p hp ad e; omega),fun p hp => b0l (hT.held p hp) fun ad e => ho _ (by have:=hTh.held p hp ad e; omega)⟩
    rcases hT.at_ with h0 | ⟨b,o,e,hc⟩
    · exact .inl h0
    · have hb':=ho b (by have:=hTh.row _ e; dsimp only at this; omega)
      exact .inr ⟨b,o,e,fun i hi q hq => (World.cell?_of_block (a:=⟨b,o + i * 16 + q,none⟩) hb').trans (hc i hi q hq)⟩
set_option maxHeartbeats 1000000 in
theorem b9q (F : Nat) (hF : ∀ args W,(callFunc F args).run Tryz.prog W = .ok (.enter F args) W) (hA : Asks F) (many buckets tasks : Int) (l : List Pk) (aP : Option Addr) (cP : Nat) (w : World) (r : PRow w aP cP l) (m : Nat) (hm : m<=l.length) (hm' : (l.length : Int)<=300/\m = l.length\/(300 : Int) < (l.length : Int)/\m = 300) :
    Calls Tryz.prog 26 #[Vi Qi many,Vi Qi buckets,Vi Qi tasks,Vs aP l.length cP,.func (.func F) #[] #[]] w fun e w' => e = .returned (.bool true)/\Below w.heap.size w w':=by
  have m1:=r.max
  have m2:=r.le
  have HR : Hid (PRow w aP cP l):=r
  have HA : Hid (Asks F):=hA
  have HFn : Hid (∀ args W,(callFunc F args).run Tryz.prog W = .ok (.enter F args) W):=hF
  have HN : Hid (aP = none->cP = 0):=r.nil
  clear r hA hF
  go_enter Tryz.func26,Tryz.ntmps26
  go_wp2_with fail
  refine (b6n many buckets tasks w).mono ?_
  rintro e w1 ⟨v,rfl,hv,hb1⟩
  obtain ⟨E,hE⟩ : ∃ E,E = a9e many buckets tasks:=⟨_,rfl⟩
  rw [<- hE] at hv ⊢
  by_cases h0 : E = 0
  rotate_left
  · have h' : (E != 0) = true:=by simpa using h0
    clear hE hm'
    obtain ⟨aS,aH,aF,aL,cS,cH,cF,cL,aT,cT,lt,rfl,-⟩:=hv
    go_wp2
    go_ret
    exact ⟨rfl,hb1.alloc hb1.size _⟩
  rw [if_pos h0] at hv
  have HI : Hid (WInv (newW many.toNat buckets.toNat tasks.toNat)):=by
    have h2 : a9e many buckets tasks = 0:=hE.symm.trans h0
    unfold a9e at h2
    by_cases hn : newE many buckets = 0
    · rw [hn,if_neg (by simp)] at h2
      have h3 : inB tasks 1 5 = true:=by
        cases hb : inB tasks 1 5
        · rw [hb] at h2; simp at h2
        · rfl
      have h4 : inB many 0 12 = true/\inB buckets 1 4 = true:=by
        unfold newE at hn
        cases h1 : inB many 0 12 <;> cases h2 : inB buckets 1 4 <;> simp [h1,h2] at hn ⊢
      rw [a0h] at h3
      rw [a0h,a0h] at h4
      exact c1e (by omega) (by omega) (by omega)
    · rw [if_pos hn] at h2; cases h2
  clear hE
  subst h0
  generalize newW many.toNat buckets.toNat tasks.toNat = W0 at *
  obtain ⟨aS,aH,aF,aL,cS,cH,cF,cL,aT,cT,lt,rfl,A,hi,hts,hT,hTh⟩:=hv
  have HB1 : Hid (WBox (w1.alloc (.cells #[Vs aS W0.m.slots.length cS,Vs aH W0.m.heads.length cH,Vs aF W0.m.free.length cF,Vs aL W0.m.a0b.length cL,Vi Qi W0.m.now,Vs aT W0.ts.length cT] 28)) w1.heap.size W0):=⟨aS,aH,aF,aL,cS,cH,cF,cL,aT,cT,lt,heap_alloc_new _ _,A.below (a0c _ _),hts,hT.below (a0c _ _)⟩
  have b2 : Below w.heap.size w (w1.alloc (.cells #[Vs aS W0.m.slots.length cS,Vs aH W0.m.heads.length cH,Vs aF W0.m.free.length cF,Vs aL W0.m.a0b.length cL,Vi Qi W0.m.now,Vs aT W0.ts.length cT] 28)):=hb1.alloc hb1.size _
  have hX : w.heap.size<=w1.heap.size:=hb1.size
  clear A hi hts hT hTh
  have hm3 : m<=300:=by omega
  have hmc : m<=cP:=by omega
  rcases hm' with ⟨hl,hml⟩ | ⟨hl,hml⟩
  · subst hml
    go_wp2_with fail
    generalize w1.alloc _ = W1 at *
    go_loopw [32] (fun i wr => ∃ (k : Nat) (W : Wd),k<=l.length/\i = Vi Qi k/\Hid (WInv W)/\Hid (WBox wr w1.heap.size W)/\Hid (Below w.heap.size w wr)) (fun i _ => l.length - (intOf i).toNat)
    case atStart => exact ⟨0,W0,Nat.zero_le _,rfl,HI,HB1,b2⟩
    case round =>
      obtain ⟨k,W,hk,rfl,HIw,HBx,Hb⟩:=hrel
      clear HB1 b2 HI
      by_cases hlt : k < l.length
      · have hkl : k < l.length:=by omega
        have hHx:=HBx.out
        obtain ⟨aS,aH,aF,aL,cS,cH,cF,cL,aT,cT,lt,hbx,A,hts,hT⟩:=hHx
        have hlw:=lt_of_block hbx
        have HTs : Hid (W.ts = lt.map (·.1)):=hts
        clear hts
        rcases (HR.out.below Hb.out).at_ with h0 | ⟨b,o,rfl,hc⟩
        · omega
        have lX : Hid (wr.rangeAt b (o + k * 9) [Vi Qi (l[k]).task,.bool (l[k]).step,.bool (l[k]).tick,Vi Qi ((l[k]).c).kind,Vi Qi ((l[k]).c).a,Vi Qi ((l[k]).c).b,Vi Qi ((l[k]).c).time,Vi Qi ((l[k]).c).bk,Vi Qi ((l[k]).c).slot]):=hc k hkl
        clear hc
        obtain ⟨x,hx⟩ : ∃ x,x = l[k]:=⟨_,rfl⟩
        rw [<- hx] at lX
        clear hx
        obtain ⟨op,hop⟩ : ∃ o : Obj,o = .cells #[Vi Qi x.task,.bool x.step,.bool x.tick,Vi Qi x.c.kind,Vi Qi x.c.a,Vi Qi x.c.b,Vi Qi x.c.time,Vi Qi x.c.bk,Vi Qi x.c.slot] 34:=⟨_,rfl⟩
        have b2 : Below wr.heap.size wr (wr.alloc op):=a0c _ _
        have HX2 : Hid ((wr.alloc op).heap[w1.heap.size]? = some (.cells #[Vs aS W.m.slots.length cS,Vs aH W.m.heads.length cH,Vs aF W.m.free.length cF,Vs aL W.m.a0b.length cL,Vi Qi W.m.now,Vs aT W.ts.length cT] 28 (0,0))):=(b2.block _ hlw).trans hbx
        have HP2 : Hid ((wr.alloc op).heap[wr.heap.size]? = some op):=heap_alloc_new _ _
        have HA2 : Hid (At (wr.alloc op) aS aH aF aL cS cH cF cL W.m):=A.below b2
        have HT2 : Hid (TRow (wr.alloc op) aT cT lt):=hT.below b2
        have Hb2 : Hid (Below w.heap.size w (wr.alloc op)):=Hb.out.trans (b2.mono Hb.out.size)
        subst hop
        have l6 : Hid ((wr.alloc (.cells #[Vi Qi x.task,.bool x.step,.bool x.tick,Vi Qi x.c.kind,Vi Qi x.c.a,Vi Qi x.c.b,Vi Qi x.c.time,Vi Qi x.c.bk,Vi Qi x.c.slot] 34)).rangeAt w1.heap.size 0 [Vs aS W.m.slots.length cS,Vs aH W.m.heads.length cH,Vs aF W.m.free.length cF,Vs aL W.m.a0b.length cL,Vi Qi W.m.now,Vs aT W.ts.length cT]):=a0q HX2.out rfl
        have lX2 : Hid ((wr.alloc (.cells #[Vi Qi x.task,.bool x.step,.bool x.tick,Vi Qi x.c.kind,Vi Qi x.c.a,Vi Qi x.c.b,Vi Qi x.c.time,Vi Qi x.c.bk,Vi Qi x.c.slot] 34)).rangeAt wr.heap.size 0 [Vi Qi x.task,.bool x.step,.bool x.tick,Vi Qi x.c.kind,Vi Qi x.c.a,Vi Qi x.c.b,Vi Qi x.c.time,Vi Qi x.c.bk,Vi Qi x.c.slot]):=a0q HP2.out rfl
        have hsz2 : w1.heap.size < (wr.alloc (.cells #[Vi Qi x.task,.bool x.step,.bool x.tick,Vi Qi x.c.kind,Vi Qi x.c.a,Vi Qi x.c.b,Vi Qi x.c.time,Vi Qi x.c.bk,Vi Qi x.c.slot] 34)).heap.size:=by simp; omega
        clear hbx A hT
        go_wp2_with (first | refine wl_X rfl _ rfl rfl lX.out ?_ | refine wl_6 rfl _ rfl rfl l6.out ?_ | refine wl_X rfl _ rfl rfl lX2.out ?_)
        clear l6 lX2 lX HP2
        generalize World.alloc wr _ = W2 at *
        have HDo : Hid (Calls Tryz.prog 15 #[.agg #[Vs aS W.m.slots.length cS,Vs aH W.m.heads.length cH,Vs aF W.m.free.length cF,Vs aL W.m.a0b.length cL,Vi Qi W.m.now,Vs aT W.ts.length cT],.agg #[Vi Qi x.task,.bool x.step,.bool x.tick,Vi Qi x.c.kind,Vi Qi x.c.a,Vi Qi x.c.b,Vi Qi x.c.time,Vi Qi x.c.bk,Vi Qi x.c.slot]] W2 (DoP W2 W x)):=by
          have h:=b9m W.m lt x aS aH aF aL cS cH cF cL aT cT W2 HA2.out HT2.out
          have hts' : lt.length = W.ts.length:=by rw [HTs.out,List.length_map]
          rw [<- HTs.out,hts'] at h
          exact h
        refine HDo.out.mono ?_
        rintro e w3 ⟨v3,rfl,hv3,hb3⟩
        have HDE : Hid (DoE W x = doE W x):=HIw.out.DoE x
        obtain ⟨E,hE⟩ : ∃ E,E = DoE W x:=⟨_,rfl⟩
        rw [<- hE] at hv3 ⊢
        have HX3 : Hid (w3.heap[w1.heap.size]? = some (.cells #[Vs aS W.m.slots.length cS,Vs aH W.m.heads.length cH,Vs aF W.m.free.length cF,Vs aL W.m.a0b.length cL,Vi Qi W.m.now,Vs aT W.ts.length cT] 28 (0,0))):=(hb3.block _ (lt_of_block HX2.out)).trans HX2.out
        have HA3 : Hid (At w3 aS aH aF aL cS cH cF cL W.m):=HA2.out.below hb3
        have HT3 : Hid (TRow w3 aT cT lt):=HT2.out.below hb3
        have Hb3 : Hid (Below w.heap.size w w3):=Hb2.out.trans (hb3.mono Hb2.out.size)
        have hz3:=hb3.size
        clear HX2 HA2 HT2 Hb2 HDo hb3
        by_cases hE0 : E = 0
        rotate_left
        · have h' : (E == 0) = false:=by simpa using hE0
          obtain ⟨_,_,_,_,_,_,_,_,_,_,_,rfl,-⟩:=hv3
          clear hE hE0
          have HBx4 : Hid (∀ o : Obj,WBox (w3.alloc o) w1.heap.size W/\Below w.heap.size w (w3.alloc o)):=fun o => ⟨WBox.below ⟨aS,aH,aF,aL,cS,cH,cF,cL,aT,cT,lt,HX3.out,HA3.out,HTs.out,HT3.out⟩ (a0c _ _),Hb3.out.alloc Hb3.out.size _⟩
          clear HX3 HA3 HT3 Hb3
          go_wp2
          go_roundw
          case rel => exact ⟨k + 1,W,by omega,by go_num,HIw,(HBx4.out _).1,(HBx4.out _).2⟩
          case measure => simp [intOf]; omega
        · have HdE : Hid (doE W x = 0):=HDE.out.symm.trans (hE.symm.trans hE0)
          rw [if_pos hE0] at hv3
          clear hE
          subst hE0
          obtain ⟨W',hW'⟩ : ∃ W',W' = doW W x:=⟨_,rfl⟩
          rw [<- hW'] at hv3
          have HW' : Hid (W' = doW W x):=hW'
          clear hW'
          obtain ⟨aS1,aH1,aF1,aL1,cS1,cH1,cF1,cL1,aT1,cT1,lt1,rfl,A1,hi1,hts1,hT1,hTh1⟩:=hv3
          have HTs1 : Hid (W'.ts = lt1.map (·.1)):=hts1
          clear hts1
          obtain ⟨oq,hoq⟩ : ∃ o : Obj,o = .cells #[Vs aS1 W'.m.slots.length cS1,Vs aH1 W'.m.heads.length cH1,Vs aF1 W'.m.free.length cF1,Vs aL1 W'.m.a0b.length cL1,Vi Qi W'.m.now,Vs aT1 W'.ts.length cT1] 28:=⟨_,rfl⟩
          have b4 : Below w3.heap.size w3 (w3.alloc oq):=a0c _ _
          have HX4 : Hid ((w3.alloc oq).heap[w1.heap.size]? = some (.cells #[Vs aS W.m.slots.length cS,Vs aH W.m.heads.length cH,Vs aF W.m.free.length cF,Vs aL W.m.a0b.length cL,Vi Qi W.m.now,Vs aT W.ts.length cT] 28 (0,0))):=(b4.block _ (lt_of_block HX3.out)).trans HX3.out
          have HY4 : Hid ((w3.alloc oq).heap[w3.heap.size]? = some oq):=heap_alloc_new _ _
          have HA4 : Hid (WAns 0 (w3.alloc oq) (.agg #[Vs aS W.m.slots.length cS,Vs aH W.m.heads.length cH,Vs aF W.m.free.length cF,Vs aL W.m.a0b.length cL,Vi Qi W.m.now,Vs aT W.ts.length cT]) W):=⟨aS,aH,aF,aL,cS,cH,cF,cL,aT,cT,lt,rfl,HA3.out.below b4,⟨fun _ _ => Nat.zero_le _,fun _ _ => Nat.zero_le _,fun _ _ => Nat.zero_le _,fun _ _ => Nat.zero_le _⟩,HTs.out,HT3.out.below b4,⟨fun _ _ => Nat.zero_le _,fun _ _ _ _ => Nat.zero_le _,fun _ _ _ _ => Nat.zero_le _⟩⟩
          have HA4' : Hid (WAns W2.heap.size (w3.alloc oq) (.agg #[Vs aS1 W'.m.slots.length cS1,Vs aH1 W'.m.heads.length cH1,Vs aF1 W'.m.free.length cF1,Vs aL1 W'.m.a0b.length cL1,Vi Qi W'.m.now,Vs aT1 W'.ts.length cT1]) W'):=⟨aS1,aH1,aF1,aL1,cS1,cH1,cF1,cL1,aT1,cT1,lt1,rfl,A1.below b4,hi1,HTs1.out,hT1.below b4,hTh1⟩
          have Hb4 : Hid (Below w.heap.size w (w3.alloc oq)):=Hb3.out.alloc Hb3.out.size _
          subst hoq
          have l6 : Hid ((w3.alloc (.cells #[Vs aS1 W'.m.slots.length cS1,Vs aH1 W'.m.heads.length cH1,Vs aF1 W'.m.free.length cF1,Vs aL1 W'.m.a0b.length cL1,Vi Qi W'.m.now,Vs aT1 W'.ts.length cT1] 28)).rangeAt w1.heap.size 0 [Vs aS W.m.slots.length cS,Vs aH W.m.heads.length cH,Vs aF W.m.free.length cF,Vs aL W.m.a0b.length cL,Vi Qi W.m.now,Vs aT W.ts.length cT]):=a0q HX4.out rfl
          have l7 : Hid ((w3.alloc (.cells #[Vs aS1 W'.m.slots.length cS1,Vs aH1 W'.m.heads.length cH1,Vs aF1 W'.m.free.length cF1,Vs aL1 W'.m.a0b.length cL1,Vi Qi W'.m.now,Vs aT1 W'.ts.length cT1] 28)).rangeAt w3.heap.size 0 [Vs aS1 W'.m.slots.length cS1,Vs aH1 W'.m.heads.length cH1,Vs aF1 W'.m.free.length cF1,Vs aL1 W'.m.a0b.length cL1,Vi Qi W'.m.now,Vs aT1 W'.ts.length cT1]):=a0q HY4.out rfl
          clear HX3 HA3 HT3 Hb3 A1 hi1 hT1 hTh1 b4
          go_wp2_with (first | refine wl_6 rfl _ rfl rfl l6.out ?_ | refine wl_6 rfl _ rfl rfl l7.out ?_)
          clear l6 l7
          generalize World.alloc w3 _ = W4 at *
          rw [HFn.out]
          refine (HA.out W x W4 _ _ HIw.out HdE.out HA4.out (by rw [<- HW'.out]; exact HA4'.out.mono (Nat.zero_le _))).mono ?_
          rintro e w5 ⟨rfl,hb5⟩
          have HX5 : Hid (w5.heap[w1.heap.size]? = _):=(hb5.block _ (lt_of_block HX4.out)).trans HX4.out
          have HY5 : Hid (w5.heap[w3.heap.size]? = _):=(hb5.block _ (lt_of_block HY4.out)).trans HY4.out
          have HA5 : Hid (WAns W2.heap.size w5 (.agg #[Vs aS1 W'.m.slots.length cS1,Vs aH1 W'.m.heads.length cH1,Vs aF1 W'.m.free.length cF1,Vs aL1 W'.m.a0b.length cL1,Vi Qi W'.m.now,Vs aT1 W'.ts.length cT1]) W'):=HA4'.out.below hb5
          have Hb5 : Hid (Below w.heap.size w w5):=Hb4.out.trans (hb5.mono Hb4.out.size)
          have l8 : Hid (w5.rangeAt w3.heap.size 0 [Vs aS1 W'.m.slots.length cS1,Vs aH1 W'.m.heads.length cH1,Vs aF1 W'.m.free.length cF1,Vs aL1 W'.m.a0b.length cL1,Vi Qi W'.m.now,Vs aT1 W'.ts.length cT1]):=a0q HY5.out rfl
          have t8 : Hid (w5.there w1.heap.size 0 6):=a1j HX5.out (by simp)
          have HB6 : Hid (WBox (w5.setCells w1.heap.size 0 [Vs aS1 W'.m.slots.length cS1,Vs aH1 W'.m.heads.length cH1,Vs aF1 W'.m.free.length cF1,Vs aL1 W'.m.a0b.length cL1,Vi Qi W'.m.now,Vs aT1 W'.ts.length cT1]) w1.heap.size W'):=HA5.out.wbox hsz2 HX5.out rfl
          have Hb6 : Hid (Below w.heap.size w (w5.setCells w1.heap.size 0 [Vs aS1 W'.m.slots.length cS1,Vs aH1 W'.m.heads.length cH1,Vs aF1 W'.m.free.length cF1,Vs aL1 W'.m.a0b.length cL1,Vi Qi W'.m.now,Vs aT1 W'.ts.length cT1])):=a0p Hb5.out hX
          have HI6 : Hid (WInv W'):=by show WInv W'; rw [HW'.out]; exact a5p HIw.out HdE.out
          clear HX4 HY4 HA4 HA4' Hb4 hb5 HX5 HY5 HA5 Hb5
          go_wp2_with (refine wl_6 rfl _ rfl rfl l8.out ?_; refine ws_6 rfl _ _ rfl rfl rfl t8.out (by kernel_rfl) ?_; clear l8 t8; generalize w5.setCells w1.heap.size 0 _ = W6 at *)
          go_roundw
          case rel => exact ⟨k + 1,W',by omega,by go_num,HI6,HB6,Hb6⟩
          case measure => simp [intOf]; omega
      · go_wp2
        go_ret
        exact ⟨rfl,Hb.out⟩
  · subst hml
    go_wp2_with fail
    generalize w1.alloc _ = W1 at *
    go_loopw [32] (fun i wr => ∃ (k : Nat) (W : Wd),k<=300/\i = Vi Qi k/\Hid (WInv W)/\Hid (WBox wr w1.heap.size W)/\Hid (Below w.heap.size w wr)) (fun i _ => 300 - (intOf i).toNat)
    case atStart => exact ⟨0,W0,Nat.zero_le _,rfl,HI,HB1,b2⟩
    case round =>
      obtain ⟨k,W,hk,rfl,HIw,HBx,Hb⟩:=hrel
      clear HB1 b2 HI
      by_cases hlt : k < 300
      · have hkl : k < l.length:=by omega
        have hHx:=HBx.out
        obtain ⟨aS,aH,aF,aL,cS,cH,cF,cL,aT,cT,lt,hbx,A,hts,hT⟩:=hHx
        have hlw:=lt_of_block hbx
        have HTs : Hid (W.ts = lt.map (·.1)):=hts
        clear hts
        rcases (HR.out.below Hb.out).at_ with h0 | ⟨b,o,rfl,hc⟩
        · omega
        have lX : Hid (wr.rangeAt b (o + k * 9) [Vi Qi (l[k]).task,.bool (l[k]).step,.bool (l[k]).tick,Vi Qi ((l[k]).c).kind,Vi Qi ((l[k]).c).a,Vi Qi ((l[k]).c).b,Vi Qi ((l[k]).c).time,Vi Qi ((l[k]).c).bk,Vi Qi ((l[k]).c).slot]):=hc k hkl
        clear hc
        obtain ⟨x,hx⟩ : ∃ x,x = l[k]:=⟨_,rfl⟩
        rw [<- hx] at lX
        clear hx
        obtain ⟨op,hop⟩ : ∃ o : Obj,o = .cells #[Vi Qi x.task,.bool x.step,.bool x.tick,Vi Qi x.c.kind,Vi Qi x.c.a,Vi Qi x.c.b,Vi Qi x.c.time,Vi Qi x.c.bk,Vi Qi x.c.slot] 34:=⟨_,rfl⟩
        have b2 : Below wr.heap.size wr (wr.alloc op):=a0c _ _
        have HX2 : Hid ((wr.alloc op).heap[w1.heap.size]? = some (.cells #[Vs aS W.m.slots.length cS,Vs aH W.m.heads.length cH,Vs aF W.m.free.length cF,Vs aL W.m.a0b.length cL,Vi Qi W.m.now,Vs aT W.ts.length cT] 28 (0,0))):=(b2.block _ hlw).trans hbx
        have HP2 : Hid ((wr.alloc op).heap[wr.heap.size]? = some op):=heap_alloc_new _ _
        have HA2 : Hid (At (wr.alloc op) aS aH aF aL cS cH cF cL W.m):=A.below b2
        have HT2 : Hid (TRow (wr.alloc op) aT cT lt):=hT.below b2
        have Hb2 : Hid (Below w.heap.size w (wr.alloc op)):=Hb.out.trans (b2.mono Hb.out.size)
        subst hop
        have l6 : Hid ((wr.alloc (.cells #[Vi Qi x.task,.bool x.step,.bool x.tick,Vi Qi x.c.kind,Vi Qi x.c.a,Vi Qi x.c.b,Vi Qi x.c.time,Vi Qi x.c.bk,Vi Qi x.c.slot] 34)).rangeAt w1.heap.size 0 [Vs aS W.m.slots.length cS,Vs aH W.m.heads.length cH,Vs aF W.m.free.length cF,Vs aL W.m.a0b.length cL,Vi Qi W.m.now,Vs aT W.ts.length cT]):=a0q HX2.out rfl
        have lX2 : Hid ((wr.alloc (.cells #[Vi Qi x.task,.bool x.step,.bool x.tick,Vi Qi x.c.kind,Vi Qi x.c.a,Vi Qi x.c.b,Vi Qi x.c.time,Vi Qi x.c.bk,Vi Qi x.c.slot] 34)).rangeAt wr.heap.size 0 [Vi Qi x.task,.bool x.step,.bool x.tick,Vi Qi x.c.kind,Vi Qi x.c.a,Vi Qi x.c.b,Vi Qi x.c.time,Vi Qi x.c.bk,Vi Qi x.c.slot]):=a0q HP2.out rfl
        have hsz2 : w1.heap.size < (wr.alloc (.cells #[Vi Qi x.task,.bool x.step,.bool x.tick,Vi Qi x.c.kind,Vi Qi x.c.a,Vi Qi x.c.b,Vi Qi x.c.time,Vi Qi x.c.bk,Vi Qi x.c.slot] 34)).heap.size:=by simp; omega
        clear hbx A hT
        go_wp2_with (first | refine wl_X rfl _ rfl rfl lX.out ?_ | refine wl_6 rfl _ rfl rfl l6.out ?_ | refine wl_X rfl _ rfl rfl lX2.out ?_)
        clear l6 lX2 lX HP2
        generalize World.alloc wr _ = W2 at *
        have HDo : Hid (Calls Tryz.prog 15 #[.agg #[Vs aS W.m.slots.length cS,Vs aH W.m.heads.length cH,Vs aF W.m.free.length cF,Vs aL W.m.a0b.length cL,Vi Qi W.m.now,Vs aT W.ts.length cT],.agg #[Vi Qi x.task,.bool x.step,.bool x.tick,Vi Qi x.c.kind,Vi Qi x.c.a,Vi Qi x.c.b,Vi Qi x.c.time,Vi Qi x.c.bk,Vi Qi x.c.slot]] W2 (DoP W2 W x)):=by
          have h:=b9m W.m lt x aS aH aF aL cS cH cF cL aT cT W2 HA2.out HT2.out
          have hts' : lt.length = W.ts.length:=by rw [HTs.out,List.length_map]
          rw [<- HTs.out,hts'] at h
          exact h
        refine HDo.out.mono ?_
        rintro e w3 ⟨v3,rfl,hv3,hb3⟩
        have HDE : Hid (DoE W x = doE W x):=HIw.out.DoE x
        obtain ⟨E,hE⟩ : ∃ E,E = DoE W x:=⟨_,rfl⟩
        rw [<- hE] at hv3 ⊢
        have HX3 : Hid (w3.heap[w1.heap.size]? = some (.cells #[Vs aS W.m.slots.length cS,Vs aH W.m.heads.length cH,Vs aF W.m.free.length cF,Vs aL W.m.a0b.length cL,Vi Qi W.m.now,Vs aT W.ts.length cT] 28 (0,0))):=(hb3.block _ (lt_of_block HX2.out)).trans HX2.out
        have HA3 : Hid (At w3 aS aH aF aL cS cH cF cL W.m):=HA2.out.below hb3
        have HT3 : Hid (TRow w3 aT cT lt):=HT2.out.below hb3
        have Hb3 : Hid (Below w.heap.size w w3):=Hb2.out.trans (hb3.mono Hb2.out.size)
        have hz3:=hb3.size
        clear HX2 HA2 HT2 Hb2 HDo hb3
        by_cases hE0 : E = 0
        rotate_left
        · have h' : (E == 0) = false:=by simpa using hE0
          obtain ⟨_,_,_,_,_,_,_,_,_,_,_,rfl,-⟩:=hv3
          clear hE hE0
          have HBx4 : Hid (∀ o : Obj,WBox (w3.alloc o) w1.heap.size W/\Below w.heap.size w (w3.alloc o)):=fun o => ⟨WBox.below ⟨aS,aH,aF,aL,cS,cH,cF,cL,aT,cT,lt,HX3.out,HA3.out,HTs.out,HT3.out⟩ (a0c _ _),Hb3.out.alloc Hb3.out.size _⟩
          clear HX3 HA3 HT3 Hb3
          go_wp2
          go_roundw
          case rel => exact ⟨k + 1,W,by omega,by go_num,HIw,(HBx4.out _).1,(HBx4.out _).2⟩
          case measure => simp [intOf]; omega
        · have HdE : Hid (doE W x = 0):=HDE.out.symm.trans (hE.symm.trans hE0)
          rw [if_pos hE0] at hv3
          clear hE
          subst hE0
          obtain ⟨W',hW'⟩ : ∃ W',W' = doW W x:=⟨_,rfl⟩
          rw [<- hW'] at hv3
          have HW' : Hid (W' = doW W x):=hW'
          clear hW'
          obtain ⟨aS1,aH1,aF1,aL1,cS1,cH1,cF1,cL1,aT1,cT1,lt1,rfl,A1,hi1,hts1,hT1,hTh1⟩:=hv3
          have HTs1 : Hid (W'.ts = lt1.map (·.1)):=hts1
          clear hts1
          obtain ⟨oq,hoq⟩ : ∃ o : Obj,o = .cells #[Vs aS1 W'.m.slots.length cS1,Vs aH1 W'.m.heads.length cH1,Vs aF1 W'.m.free.length cF1,Vs aL1 W'.m.a0b.length cL1,Vi Qi W'.m.now,Vs aT1 W'.ts.length cT1] 28:=⟨_,rfl⟩
          have b4 : Below w3.heap.size w3 (w3.alloc oq):=a0c _ _
          have HX4 : Hid ((w3.alloc oq).heap[w1.heap.size]? = some (.cells #[Vs aS W.m.slots.length cS,Vs aH W.m.heads.length cH,Vs aF W.m.free.length cF,Vs aL W.m.a0b.length cL,Vi Qi W.m.now,Vs aT W.ts.length cT] 28 (0,0))):=(b4.block _ (lt_of_block HX3.out)).trans HX3.out
          have HY4 : Hid ((w3.alloc oq).heap[w3.heap.size]? = some oq):=heap_alloc_new _ _
          have HA4 : Hid (WAns 0 (w3.alloc oq) (.agg #[Vs aS W.m.slots.length cS,Vs aH W.m.heads.length cH,Vs aF W.m.free.length cF,Vs aL W.m.a0b.length cL,Vi Qi W.m.now,Vs aT W.ts.length cT]) W):=⟨aS,aH,aF,aL,cS,cH,cF,cL,aT,cT,lt,rfl,HA3.out.below b4,⟨fun _ _ => Nat.zero_le _,fun _ _ => Nat.zero_le _,fun _ _ => Nat.zero_le _,fun _ _ => Nat.zero_le _⟩,HTs.out,HT3.out.below b4,⟨fun _ _ => Nat.zero_le _,fun _ _ _ _ => Nat.zero_le _,fun _ _ _ _ => Nat.zero_le _⟩⟩
          have HA4' : Hid (WAns W2.heap.size (w3.alloc oq) (.agg #[Vs aS1 W'.m.slots.length cS1,Vs aH1 W'.m.heads.length cH1,Vs aF1 W'.m.free.length cF1,Vs aL1 W'.m.a0b.length cL1,Vi Qi W'.m.now,Vs aT1 W'.ts.length cT1]) W'):=⟨aS1,aH1,aF1,aL1,cS1,cH1,cF1,cL1,aT1,cT1,lt1,rfl,A1.below b4,hi1,HTs1.out,hT1.below b4,hTh1⟩
          have Hb4 : Hid (Below w.heap.size w (w3.alloc oq)):=Hb3.out.alloc Hb3.out.size _
          subst hoq
          have l6 : Hid ((w3.alloc (.cells #[Vs aS1 W'.m.slots.length cS1,Vs aH1 W'.m.heads.length cH1,Vs aF1 W'.m.free.length cF1,Vs aL1 W'.m.a0b.length cL1,Vi Qi W'.m.now,Vs aT1 W'.ts.length cT1] 28)).rangeAt w1.heap.size 0 [Vs aS W.m.slots.length cS,Vs aH W.m.heads.length cH,Vs aF W.m.free.length cF,Vs aL W.m.a0b.length cL,Vi Qi W.m.now,Vs aT W.ts.length cT]):=a0q HX4.out rfl
          have l7 : Hid ((w3.alloc (.cells #[Vs aS1 W'.m.slots.length cS1,Vs aH1 W'.m.heads.length cH1,Vs aF1 W'.m.free.length cF1,Vs aL1 W'.m.a0b.length cL1,Vi Qi W'.m.now,Vs aT1 W'.ts.length cT1] 28)).rangeAt w3.heap.size 0 [Vs aS1 W'.m.slots.length cS1,Vs aH1 W'.m.heads.length cH1,Vs aF1 W'.m.free.length cF1,Vs aL1 W'.m.a0b.length cL1,Vi Qi W'.m.now,Vs aT1 W'.ts.length cT1]):=a0q HY4.out rfl
          clear HX3 HA3 HT3 Hb3 A1 hi1 hT1 hTh1 b4
          go_wp2_with (first | refine wl_6 rfl _ rfl rfl l6.out ?_ | refine wl_6 rfl _ rfl rfl l7.out ?_)
          clear l6 l7
          generalize World.alloc w3 _ = W4 at *
          rw [HFn.out]
          refine (HA.out W x W4 _ _ HIw.out HdE.out HA4.out (by rw [<- HW'.out]; exact HA4'.out.mono (Nat.zero_le _))).mono ?_
          rintro e w5 ⟨rfl,hb5⟩
          have HX5 : Hid (w5.heap[w1.heap.size]? = _):=(hb5.block _ (lt_of_block HX4.out)).trans HX4.out
          have HY5 : Hid (w5.heap[w3.heap.size]? = _):=(hb5.block _ (lt_of_block HY4.out)).trans HY4.out
          have HA5 : Hid (WAns W2.heap.size w5 (.agg #[Vs aS1 W'.m.slots.length cS1,Vs aH1 W'.m.heads.length cH1,Vs aF1 W'.m.free.length cF1,Vs aL1 W'.m.a0b.length cL1,Vi Qi W'.m.now,Vs aT1 W'.ts.length cT1]) W'):=HA4'.out.below hb5
          have Hb5 : Hid (Below w.heap.size w w5):=Hb4.out.trans (hb5.mono Hb4.out.size)
          have l8 : Hid (w5.rangeAt w3.heap.size 0 [Vs aS1 W'.m.slots.length cS1,Vs aH1 W'.m.heads.length cH1,Vs aF1 W'.m.free.length cF1,Vs aL1 W'.m.a0b.length cL1,Vi Qi W'.m.now,Vs aT1 W'.ts.length cT1]):=a0q HY5.out rfl
          have t8 : Hid (w5.there w1.heap.size 0 6):=a1j HX5.out (by simp)
          have HB6 : Hid (WBox (w5.setCells w1.heap.size 0 [Vs aS1 W'.m.slots.length cS1,Vs aH1 W'.m.heads.length cH1,Vs aF1 W'.m.free.length cF1,Vs aL1 W'.m.a0b.length cL1,Vi Qi W'.m.now,Vs aT1 W'.ts.length cT1]) w1.heap.size W'):=HA5.out.wbox hsz2 HX5.out rfl
          have Hb6 : Hid (Below w.heap.size w (w5.setCells w1.heap.size 0 [Vs aS1 W'.m.slots.length cS1,Vs aH1 W'.m.heads.length cH1,Vs aF1 W'.m.free.length cF1,Vs aL1 W'.m.a0b.length cL1,Vi Qi W'.m.now,Vs aT1 W'.ts.length cT1])):=a0p Hb5.out hX
          have HI6 : Hid (WInv W'):=by show WInv W'; rw [HW'.out]; exact a5p HIw.out HdE.out
          clear HX4 HY4 HA4 HA4' Hb4 hb5 HX5 HY5 HA5 Hb5
          go_wp2_with (refine wl_6 rfl _ rfl rfl l8.out ?_; refine ws_6 rfl _ _ rfl rfl rfl t8.out (by kernel_rfl) ?_; clear l8 t8; generalize w5.setCells w1.heap.size 0 _ = W6 at *)
          go_roundw
          case rel => exact ⟨k + 1,W',by omega,by go_num,HI6,HB6,Hb6⟩
          case measure => simp [intOf]; omega
      · go_wp2
        go_ret
        exact ⟨rfl,Hb.out⟩
theorem b2p (F : Nat) (hF : ∀ args W,(callFunc F args).run Tryz.prog W = .ok (.enter F args) W) (hA : Asks F) (many buckets tasks : Int) (l : List Pk) (aP : Option Addr) (cP : Nat) (w : World) (r : PRow w aP cP l) :
    Calls Tryz.prog 26 #[Vi Qi many,Vi Qi buckets,Vi Qi tasks,Vs aP l.length cP,.func (.func F) #[] #[]] w fun e w' => e = .returned (.bool true)/\Below w.heap.size w w':=by
  by_cases h : l.length<=300
  · exact b9q F hF hA many buckets tasks l aP cP w r l.length (Nat.le_refl _) (.inl ⟨by omega,rfl⟩)
  · exact b9q F hF hA many buckets tasks l aP cP w r 300 (by omega) (.inr ⟨by omega,rfl⟩)
end
section
open Go.ChangeShapes Go.WideShapes Go.ChangeAt Go.RowKit Go.Joins Go.Deep Go.Sort
set_option maxHeartbeats 3200000 in
theorem b9x (M : Mm) (aS aH aF aL : Option Addr) (cS cH cF cL : Nat) (w : World) (A : At w aS aH aF aL cS cH cF cL M) :
    Calls Tryz.prog 55 #[.agg #[Vs aS M.slots.length cS,Vs aH M.heads.length cH,Vs aF M.free.length cF,Vs aL M.a0b.length cL,Vi Qi M.now]] w fun e w' =>
      ∃ ao cap,e = .returned (.tuple #[Vs ao (a2k M).length cap,Vi Qi (chkC M)])/\w'.ownsRow w.heap.size 61 4 (Vs ao (a2k M).length cap) (a2k M).length (encF (a2k M))/\Below w.heap.size w w':=by
  obtain ⟨E0,hE0⟩ : ∃ E0,E0 = chkC M:=⟨_,rfl⟩
  obtain ⟨L0,hL0⟩ : ∃ L0,L0 = a2k M:=⟨_,rfl⟩
  rw [<- hE0,<- hL0]
  have HE0 : Hid (E0 = chkC M):=hE0
  have HL0 : Hid (L0 = a2k M):=hL0
  clear hE0 hL0
  obtain ⟨o1,ho1⟩ : ∃ o : Obj,o = .cells #[Vs aS M.slots.length cS,Vs aH M.heads.length cH,Vs aF M.free.length cF,Vs aL M.a0b.length cL,Vi Qi M.now] 25:=⟨_,rfl⟩
  have b0 : Below w.heap.size w (w.alloc o1):=a0c w o1
  have HB0 : Hid ((w.alloc o1).heap[w.heap.size]? = some o1):=heap_alloc_new _ _
  have HA : Hid (At w aS aH aF aL cS cH cF cL M):=A
  have HA0 : Hid _:=A.below b0
  clear A
  have hmf : ∀ (fn : Fn) (first cap : Array Value) (w : World),(Instr.makeFunc fn first cap).run Tryz.prog w = .ok (.func fn first cap) w:=fun _ _ _ _ => rfl
  go_enter Tryz.func55,Tryz.ntmps55
  go_wp2_with fail
  rw [<- ho1]
  generalize w.alloc o1 = W0 at *
  subst ho1
  refine (a6v M aS aH aF aL cS cH cF cL W0 HA0.out).mono ?_
  rintro e w1 ⟨rfl,hb1⟩
  have b1:=b0.trans (hb1.mono b0.size)
  have HB1 : Hid (w1.heap[w.heap.size]? = _):=(hb1.block w.heap.size (lt_of_block HB0.out)).trans HB0.out
  clear hb1 b0 HB0 HA0
  by_cases hE : chkC M = 0
  rotate_left
  · have h' : (chkC M != 0) = true:=by simpa using hE
    have HV : Hid (E0 = chkC M/\L0 = []):=⟨HE0.out,HL0.out.trans (by unfold a2k; rw [if_neg hE])⟩
    clear HB1
    generalize chkC M = E at *
    go_wp2
    go_ret2
    exact ⟨none,0,by rw [HV.out.1,HV.out.2]; rfl,by rw [HV.out.2]; exact World.ownsRow_nil _ _ _ _,b1⟩
  have hokc:=(a7e M).1 hE
  have hok:=hokc.ok
  have n0:=hok.ns
  have n1:=hok.nh
  have HV : Hid (E0 = 0/\L0 = (allC M).map (a1q M)):=⟨HE0.out.trans hE,HL0.out.trans (by unfold a2k; rw [if_pos hE])⟩
  rw [hE]
  clear hE HE0 HL0
  obtain ⟨q0,q1,q2,q3,q4,f0,f1,f2,f3,f4,qs⟩:=boxf HB1.out
  clear f0 f1 f2 f3 f4
  obtain ⟨B,hB⟩ : ∃ B,B = w1.heap.size:=⟨_,rfl⟩
  have HBe : Hid (B = w1.heap.size):=hB
  have HV1 : Hid ((w1.alloc (.cells #[Vs none 0 0] 56)).heap[B]? = some (.cells #[Vs none 0 0] 56)):=by rw [hB]; exact heap_alloc_new _ _
  have HX1 : Hid ((w1.alloc (.cells #[Vs none 0 0] 56)).heap[w.heap.size]? = some (.cells #[Vs aS M.slots.length cS,Vs aH M.heads.length cH,Vs aF M.free.length cF,Vs aL M.a0b.length cL,Vi Qi M.now] 25 (0,0))):=(Below.heap_alloc _ _ _ qs).trans HB1.out
  have b2:=b1.alloc b1.size (.cells #[Vs none 0 0] 56)
  have bX : w.heap.size < B:=by rw [hB]; exact qs
  go_wp2
  rw [<- hB]
  clear hB q0 q1 q2 q3 q4 HB1
  go_loopw [15] (fun i wr => ∃ b : Nat,b<=M.heads.length/\i = Vi Qi b/\(∃ v,Hid (wr.heap[B]? = some (.cells #[v] 56 (0,0)))/\Hid (wr.ownsRow (B + 1) 61 4 v ((a1e M b).map (a1q M)).length (encF ((a1e M b).map (a1q M)))))/\Below w.heap.size w wr/\Hid (wr.heap[w.heap.size]? = some (.cells #[Vs aS M.slots.length cS,Vs aH M.heads.length cH,Vs aF M.free.length cF,Vs aL M.a0b.length cL,Vi Qi M.now] 25 (0,0))))
    (fun i _ => M.heads.length - (intOf i).toNat)
  case atStart => exact ⟨0,Nat.zero_le _,rfl,⟨_,HV1,World.ownsRow_nil _ _ _ _⟩,b2,HX1⟩
  case round =>
    obtain ⟨b,hb,rfl,⟨v,HVr,HOr⟩,hbw,HX⟩:=hrel
    clear HV1 HX1 b2 b1
    obtain ⟨q0,q1,q2,q3,q4,f0,f1,f2,f3,f4,qs'⟩:=boxf HX.out
    clear f0 f1 f2 f3 f4
    have lB:=lt_of_block HVr.out
    by_cases hlt : b < M.heads.length
    · have hal:=a7d M b
      have hal2 : b * M.slots.length<=4 * 12:=Nat.mul_le_mul (by omega) n0
      go_wp2_with fail
      have hst : Lst wr B wr.heap.size 56 61 4 #[Vs aS M.slots.length cS,Vs aH M.heads.length cH,Vs aF M.free.length cF,Vs aL M.a0b.length cL,Vi Qi M.now] (wr.alloc (.cells #[Vs aS M.slots.length cS,Vs aH M.heads.length cH,Vs aF M.free.length cF,Vs aL M.a0b.length cL,Vi Qi M.now] 25)) ((a1e M b ++ []).map (a1q M)).length (encF ((a1e M b ++ []).map (a1q M))):=by
        rw [List.append_nil]
        refine ⟨⟨v,(Below.heap_alloc _ _ _ lB).trans HVr.out,World.ownsRow.alloc HOr.out _⟩,heap_alloc_new _ _,(Below.refl _ _).alloc (by omega) _,by omega⟩
      refine (b6z 100 #[.pointer (some ⟨w.heap.size,0,none⟩),.pointer (some ⟨B,0,none⟩)] M aS aH aF aL cS cH cF cL b wr hok hlt fn72 (fun l W => Lst wr B wr.heap.size 56 61 4 #[Vs aS M.slots.length cS,Vs aH M.heads.length cH,Vs aF M.free.length cF,Vs aL M.a0b.length cL,Vi Qi M.now] W ((a1e M b ++ l).map (a1q M)).length (encF ((a1e M b ++ l).map (a1q M)))) hst (fun l W h => h.box) (fun l W h => HA.out.below (hbw.trans (h.below.mono (by omega)))) ?_).mono ?_
      · intro l a W hL ha hl
        have:=app72 M aS aH aF aL cS cH cF cL _ _ w.heap.size _ _ _ _ a hL (by rw [List.length_append]; omega) ((hL.below.block w.heap.size bX).trans HX.out) (HA.out.below (hbw.trans (hL.below.mono (by omega)))) ha n0
        rw [List.append_assoc] at this
        exact this
      rintro e w2 ⟨rfl,hL2⟩
      rw [<- a4a] at hL2
      obtain ⟨⟨v2,hv2,ho2⟩,-,hb2,-⟩:=hL2
      have HV2 : Hid (w2.heap[B]? = some (.cells #[v2] 56 (0,0))):=hv2
      have HO2 : Hid (w2.ownsRow (B + 1) 61 4 v2 ((a1e M (b + 1)).map (a1q M)).length (encF ((a1e M (b + 1)).map (a1q M)))):=ho2
      have hbx : Below w.heap.size w w2:=hbw.trans (hb2.mono (by omega))
      have HX2 : Hid (w2.heap[w.heap.size]? = some (.cells #[Vs aS M.slots.length cS,Vs aH M.heads.length cH,Vs aF M.free.length cF,Vs aL M.a0b.length cL,Vi Qi M.now] 25 (0,0))):=(hb2.block w.heap.size bX).trans HX.out
      clear hv2 ho2 hb2 hst HVr HOr HX hbw q0 q1 q2 q3 q4
      go_wp2
      go_roundw
      case rel => exact ⟨b + 1,by omega,by go_num,⟨v2,HV2,HO2⟩,hbx,HX2⟩
      case measure => simp [intOf]; omega
    · obtain rfl : b = M.heads.length:=by omega
      have hlen:=a7d M M.heads.length
      have hal2 : M.heads.length * M.slots.length<=4 * 12:=Nat.mul_le_mul (by omega) n0
      obtain ⟨ao,cap,rfl,hrow⟩:=FRow.a6h HOr.out (by rw [List.length_map]; omega)
      have HR : Hid (wr.ownsRow w.heap.size 61 4 (Vs ao ((allC M).map (a1q M)).length cap) ((allC M).map (a1q M)).length (encF ((allC M).map (a1q M)))):=ownsRow_le HOr.out (by omega)
      clear hrow
      obtain ⟨c0,-,lB'⟩:=a0j HVr.out
      have hlm : ((allC M).map (a1q M)).length = ((a1e M M.heads.length).map (a1q M)).length:=rfl
      clear HVr HOr
      go_wp2
      go_ret2
      refine ⟨ao,cap,?_,?_,hbw⟩
      · rw [HV.out.1,HV.out.2,hlm]
        simp
      · rw [HV.out.2]; exact HR.out
end
section
open Go.ChangeShapes Go.WideShapes Go.ChangeAt Go.RowKit Go.Joins Go.Deep Go.Maps
theorem pastf {w : World} {B : Nat} {v0 v1 v2 v3 v4 v5 v6 v7 v8 v9 v10 v11 v12 : Value} {t : TypeId} (h : w.heap[B]? = some (.cells #[v0,v1,v2,v3,v4,v5,v6,v7,v8,v9,v10,v11,v12] t (0,0))) :
    w.cell? ⟨B,0,none⟩ = some v0/\w.cell? ⟨B,1,none⟩ = some v1/\w.cell? ⟨B,2,none⟩ = some v2/\w.cell? ⟨B,3,none⟩ = some v3/\w.cell? ⟨B,4,none⟩ = some v4/\w.cell? ⟨B,5,none⟩ = some v5/\w.cell? ⟨B,6,none⟩ = some v6/\w.cell? ⟨B,7,none⟩ = some v7/\w.cell? ⟨B,8,none⟩ = some v8/\w.cell? ⟨B,9,none⟩ = some v9/\w.cell? ⟨B,10,none⟩ = some v10/\w.cell? ⟨B,11,none⟩ = some v11/\w.cell? ⟨B,12,none⟩ = some v12/\B < w.heap.size :=
  ⟨by rw [cell_of_block h]; rfl,by rw [cell_of_block h]; rfl,by rw [cell_of_block h]; rfl,by rw [cell_of_block h]; rfl,by rw [cell_of_block h]; rfl,by rw [cell_of_block h]; rfl,by rw [cell_of_block h]; rfl,by rw [cell_of_block h]; rfl,by rw [cell_of_block h]; rfl,by rw [cell_of_block h]; rfl,by rw [cell_of_block h]; rfl,by rw [cell_of_block h]; rfl,by rw [cell_of_block h]; rfl,lt_of_block h⟩
def ToldP (w : World) (f : Fr) (task fro too : Int) (e : Ending) (w' : World) : Prop :=
  ∃ a2 c2,e = .returned (.agg #[Vi Qi task,Vi Qi f.c.kind,Vi Qi f.c.a,Vi Qi f.c.b,Vi Qi f.c.time,Vi Qi f.c.bk,Vi Qi f.c.slot,Vi Qi fro,Vi Qi too,Vi Qi f.e,Vi Qi f.slot,Vi Qi f.n,Vs a2 f.keys.length c2])/\KOwn w' w.heap.size a2 c2 f.keys/\Below w.heap.size w w'
set_option maxHeartbeats 4000000 in
theorem told_any (f : Fr) (task fro too : Int) (aK : Option Addr) (cK : Nat) (w : World) (r : KRow w aK cK f.keys) :
    Calls Tryz.prog 81 #[.agg #[Vi Qi f.c.kind,Vi Qi f.c.a,Vi Qi f.c.b,Vi Qi f.c.time,Vi Qi f.c.bk,Vi Qi f.c.slot,Vi Qi f.pl,Vi Qi f.cur,Vi Qi f.prev,Vi Qi f.slot,Vi Qi f.n,Vs aK f.keys.length cK,.bool f.done,Vi Qi f.e],Vi Qi task,Vi Qi fro,Vi Qi too] w (ToldP w f task fro too):=by
  obtain ⟨ox,hox⟩ : ∃ o : Obj,o = .cells #[Vi Qi f.c.kind,Vi Qi f.c.a,Vi Qi f.c.b,Vi Qi f.c.time,Vi Qi f.c.bk,Vi Qi f.c.slot,Vi Qi f.pl,Vi Qi f.cur,Vi Qi f.prev,Vi Qi f.slot,Vi Qi f.n,Vs aK f.keys.length cK,.bool f.done,Vi Qi f.e] 47:=⟨_,rfl⟩
  obtain ⟨oy,hoy⟩ : ∃ o : Obj,o = .cells #[Vi Qi 0,Vi Qi 0,Vi Qi 0,Vi Qi 0,Vi Qi 0,Vi Qi 0,Vi Qi 0,Vi Qi 0,Vi Qi 0,Vi Qi 0,Vi Qi 0,Vi Qi 0,Vs none 0 0] 78:=⟨_,rfl⟩
  have b0 : Below w.heap.size w ((w.alloc ox).alloc oy):=below_alloc2 w ox oy
  have HX0 : Hid (((w.alloc ox).alloc oy).heap[w.heap.size]? = some ox):=by show _ = _; rw [Below.heap_alloc _ _ _ (by simp),heap_alloc_new]
  have HY0 : Hid (((w.alloc ox).alloc oy).heap[w.heap.size + 1]? = some oy):=by
    have:=heap_alloc_new (w.alloc ox) oy
    rwa [show (w.alloc ox).heap.size = w.heap.size + 1 by simp] at this
  have HK0 : Hid (KRow ((w.alloc ox).alloc oy) aK cK f.keys):=r.below b0
  have z0 : ((w.alloc ox).alloc oy).heap.size = w.heap.size + 2:=by simp
  clear r
  go_enter Tryz.func81,Tryz.ntmps81
  go_wp2_with fail
  rw [<- hox,<- hoy]
  generalize (w.alloc ox).alloc oy = W0 at *
  subst hox hoy
  obtain ⟨f0,f1,f2,f3,f4,f5,f6,f7,f8,f9,f10,f11,f12,f13,ff,fs⟩:=a0a HX0.out
  have HS : Hid (∀ w' : World,Below W0.heap.size W0 w'->w'.cell? ⟨w.heap.size,0,none⟩ = some (Vi Qi f.c.kind)/\w'.cell? ⟨w.heap.size,1,none⟩ = some (Vi Qi f.c.a)/\w'.cell? ⟨w.heap.size,2,none⟩ = some (Vi Qi f.c.b)/\w'.cell? ⟨w.heap.size,3,none⟩ = some (Vi Qi f.c.time)/\w'.cell? ⟨w.heap.size,4,none⟩ = some (Vi Qi f.c.bk)/\w'.cell? ⟨w.heap.size,5,none⟩ = some (Vi Qi f.c.slot)/\w'.cell? ⟨w.heap.size,6,none⟩ = some (Vi Qi f.pl)/\w'.cell? ⟨w.heap.size,7,none⟩ = some (Vi Qi f.cur)/\w'.cell? ⟨w.heap.size,8,none⟩ = some (Vi Qi f.prev)/\w'.cell? ⟨w.heap.size,9,none⟩ = some (Vi Qi f.slot)/\w'.cell? ⟨w.heap.size,10,none⟩ = some (Vi Qi f.n)/\w'.cell? ⟨w.heap.size,11,none⟩ = some (Vs aK f.keys.length cK)/\w'.cell? ⟨w.heap.size,12,none⟩ = some (.bool f.done)/\w'.cell? ⟨w.heap.size,13,none⟩ = some (Vi Qi f.e)):=fun w' hb => ⟨((a1z hb).1 _ _ fs).trans f0,((a1z hb).1 _ _ fs).trans f1,((a1z hb).1 _ _ fs).trans f2,((a1z hb).1 _ _ fs).trans f3,((a1z hb).1 _ _ fs).trans f4,((a1z hb).1 _ _ fs).trans f5,((a1z hb).1 _ _ fs).trans f6,((a1z hb).1 _ _ fs).trans f7,((a1z hb).1 _ _ fs).trans f8,((a1z hb).1 _ _ fs).trans f9,((a1z hb).1 _ _ fs).trans f10,((a1z hb).1 _ _ fs).trans f11,((a1z hb).1 _ _ fs).trans f12,((a1z hb).1 _ _ fs).trans f13⟩
  have HS3 : Hid (∀ w2 : World,Below W0.heap.size W0 w2->∀ w' : World,(∀ k,k ≠ w.heap.size + 1->w'.heap[k]? = w2.heap[k]?)->w'.cell? ⟨w.heap.size,0,none⟩ = some (Vi Qi f.c.kind)/\w'.cell? ⟨w.heap.size,1,none⟩ = some (Vi Qi f.c.a)/\w'.cell? ⟨w.heap.size,2,none⟩ = some (Vi Qi f.c.b)/\w'.cell? ⟨w.heap.size,3,none⟩ = some (Vi Qi f.c.time)/\w'.cell? ⟨w.heap.size,4,none⟩ = some (Vi Qi f.c.bk)/\w'.cell? ⟨w.heap.size,5,none⟩ = some (Vi Qi f.c.slot)/\w'.cell? ⟨w.heap.size,6,none⟩ = some (Vi Qi f.pl)/\w'.cell? ⟨w.heap.size,7,none⟩ = some (Vi Qi f.cur)/\w'.cell? ⟨w.heap.size,8,none⟩ = some (Vi Qi f.prev)/\w'.cell? ⟨w.heap.size,9,none⟩ = some (Vi Qi f.slot)/\w'.cell? ⟨w.heap.size,10,none⟩ = some (Vi Qi f.n)/\w'.cell? ⟨w.heap.size,11,none⟩ = some (Vs aK f.keys.length cK)/\w'.cell? ⟨w.heap.size,12,none⟩ = some (.bool f.done)/\w'.cell? ⟨w.heap.size,13,none⟩ = some (Vi Qi f.e)):=fun w2 hb w' hk => by
    have h:=HS.out w2 hb
    exact ⟨(World.cell?_of_block (hk w.heap.size (by omega))).trans h.1,(World.cell?_of_block (hk w.heap.size (by omega))).trans h.2.1,(World.cell?_of_block (hk w.heap.size (by omega))).trans h.2.2.1,(World.cell?_of_block (hk w.heap.size (by omega))).trans h.2.2.2.1,(World.cell?_of_block (hk w.heap.size (by omega))).trans h.2.2.2.2.1,(World.cell?_of_block (hk w.heap.size (by omega))).trans h.2.2.2.2.2.1,(World.cell?_of_block (hk w.heap.size (by omega))).trans h.2.2.2.2.2.2.1,(World.cell?_of_block (hk w.heap.size (by omega))).trans h.2.2.2.2.2.2.2.1,(World.cell?_of_block (hk w.heap.size (by omega))).trans h.2.2.2.2.2.2.2.2.1,(World.cell?_of_block (hk w.heap.size (by omega))).trans h.2.2.2.2.2.2.2.2.2.1,(World.cell?_of_block (hk w.heap.size (by omega))).trans h.2.2.2.2.2.2.2.2.2.2.1,(World.cell?_of_block (hk w.heap.size (by omega))).trans h.2.2.2.2.2.2.2.2.2.2.2.1,(World.cell?_of_block (hk w.heap.size (by omega))).trans h.2.2.2.2.2.2.2.2.2.2.2.2.1,(World.cell?_of_block (hk w.heap.size (by omega))).trans h.2.2.2.2.2.2.2.2.2.2.2.2.2⟩
  have HL : Hid (∀ W : World,Below W0.heap.size W0 W->Calls Tryz.prog 104 #[Vs aK f.keys.length cK] W fun e w' => ∃ a c,e = .returned (Vs a f.keys.length c)/\KOwn w' W.heap.size a c f.keys/\Below W.heap.size W w'):=fun W hb => b0m aK cK f.keys W (HK0.out.below hb)
  have hz : W0.heap.size = w.heap.size + 2:=z0
  have Hz : Hid (W0.heap.size = w.heap.size + 2):=z0
  clear z0 hz ff
  go_region_held3 (fun w' => w'.cell? ⟨w.heap.size,0,none⟩ = some (Vi Qi f.c.kind)/\w'.cell? ⟨w.heap.size,1,none⟩ = some (Vi Qi f.c.a)/\w'.cell? ⟨w.heap.size,2,none⟩ = some (Vi Qi f.c.b)/\w'.cell? ⟨w.heap.size,3,none⟩ = some (Vi Qi f.c.time)/\w'.cell? ⟨w.heap.size,4,none⟩ = some (Vi Qi f.c.bk)/\w'.cell? ⟨w.heap.size,5,none⟩ = some (Vi Qi f.c.slot)/\w'.cell? ⟨w.heap.size,6,none⟩ = some (Vi Qi f.pl)/\w'.cell? ⟨w.heap.size,7,none⟩ = some (Vi Qi f.cur)/\w'.cell? ⟨w.heap.size,8,none⟩ = some (Vi Qi f.prev)/\w'.cell? ⟨w.heap.size,9,none⟩ = some (Vi Qi f.slot)/\w'.cell? ⟨w.heap.size,10,none⟩ = some (Vi Qi f.n)/\w'.cell? ⟨w.heap.size,11,none⟩ = some (Vs aK f.keys.length cK)/\w'.cell? ⟨w.heap.size,12,none⟩ = some (.bool f.done)/\w'.cell? ⟨w.heap.size,13,none⟩ = some (Vi Qi f.e)) (first | (refine HS4.out _ (fun k hk => ?_); iterate 13 rw [Below.heap_setCell _ _ _ _ (by dsimp only; exact hk)]) | exact HS.out _ HB2.out | exact HS.out _ ⟨rfl,rfl,rfl,Nat.le_refl _,fun _ _ => rfl⟩) (first | (go_at_call 104; refine (HL.out _ (by exact ⟨rfl,rfl,rfl,Nat.le_refl _,fun _ _ => rfl⟩)).mono ?_; rintro e w2 ⟨a2,c2,rfl,ho2,hb2⟩; have HO2 : Hid (KOwn w2 W0.heap.size a2 c2 f.keys):=ho2; have HB2 : Hid (Below W0.heap.size W0 w2):=⟨hb2.os,hb2.tape,hb2.output,hb2.size,hb2.block⟩; have HY2 : Hid (w2.heap[w.heap.size + 1]? = _):=(HB2.out.block _ (lt_of_block HY0.out)).trans HY0.out; obtain ⟨y0,y1,y2,y3,y4,y5,y6,y7,y8,y9,y10,y11,y12,ys⟩:=pastf HY2.out; have hfz:=fun j => unfrozen_of_block HY2.out j; have HS4 : Hid (∀ w' : World,(∀ k,k ≠ w.heap.size + 1->w'.heap[k]? = w2.heap[k]?)->w'.cell? ⟨w.heap.size,0,none⟩ = some (Vi Qi f.c.kind)/\w'.cell? ⟨w.heap.size,1,none⟩ = some (Vi Qi f.c.a)/\w'.cell? ⟨w.heap.size,2,none⟩ = some (Vi Qi f.c.b)/\w'.cell? ⟨w.heap.size,3,none⟩ = some (Vi Qi f.c.time)/\w'.cell? ⟨w.heap.size,4,none⟩ = some (Vi Qi f.c.bk)/\w'.cell? ⟨w.heap.size,5,none⟩ = some (Vi Qi f.c.slot)/\w'.cell? ⟨w.heap.size,6,none⟩ = some (Vi Qi f.pl)/\w'.cell? ⟨w.heap.size,7,none⟩ = some (Vi Qi f.cur)/\w'.cell? ⟨w.heap.size,8,none⟩ = some (Vi Qi f.prev)/\w'.cell? ⟨w.heap.size,9,none⟩ = some (Vi Qi f.slot)/\w'.cell? ⟨w.heap.size,10,none⟩ = some (Vi Qi f.n)/\w'.cell? ⟨w.heap.size,11,none⟩ = some (Vs aK f.keys.length cK)/\w'.cell? ⟨w.heap.size,12,none⟩ = some (.bool f.done)/\w'.cell? ⟨w.heap.size,13,none⟩ = some (Vi Qi f.e)):=HS3.out w2 HB2.out; clear ho2 hb2))
  all_goals
    have HB4 : Hid ((w2.setCells (w.heap.size + 1) 0 [Vi Qi task,Vi Qi f.c.kind,Vi Qi f.c.a,Vi Qi f.c.b,Vi Qi f.c.time,Vi Qi f.c.bk,Vi Qi f.c.slot,Vi Qi fro,Vi Qi too,Vi Qi f.e,Vi Qi f.slot,Vi Qi f.n,Vs a2 f.keys.length c2]).heap[w.heap.size + 1]? = some (.cells #[Vi Qi task,Vi Qi f.c.kind,Vi Qi f.c.a,Vi Qi f.c.b,Vi Qi f.c.time,Vi Qi f.c.bk,Vi Qi f.c.slot,Vi Qi fro,Vi Qi too,Vi Qi f.e,Vi Qi f.slot,Vi Qi f.n,Vs a2 f.keys.length c2] 78 (0,0))):=a1c HY2.out rfl
    have HK4 : Hid (KOwn (w2.setCells (w.heap.size + 1) 0 [Vi Qi task,Vi Qi f.c.kind,Vi Qi f.c.a,Vi Qi f.c.b,Vi Qi f.c.time,Vi Qi f.c.bk,Vi Qi f.c.slot,Vi Qi fro,Vi Qi too,Vi Qi f.e,Vi Qi f.slot,Vi Qi f.n,Vs a2 f.keys.length c2]) w.heap.size a2 c2 f.keys):=(HO2.out.same fun ad e => a0f (by have:=(HO2.out.lt ad e).1; have:=Hz.out; omega) _ _ _).le (by have:=Hz.out; omega)
    have b4 : Below w.heap.size w (w2.setCells (w.heap.size + 1) 0 [Vi Qi task,Vi Qi f.c.kind,Vi Qi f.c.a,Vi Qi f.c.b,Vi Qi f.c.time,Vi Qi f.c.bk,Vi Qi f.c.slot,Vi Qi fro,Vi Qi too,Vi Qi f.e,Vi Qi f.slot,Vi Qi f.n,Vs a2 f.keys.length c2]):=a0p (b0.trans (HB2.out.mono b0.size)) (by omega)
    simp only [World.setCells,Nat.zero_add,Nat.reduceAdd] at HB4 HK4 b4
    clear y0 y1 y2 y3 y4 y5 y6 y7 y8 y9 y10 y11 y12 ys hfz f0 f1 f2 f3 f4 f5 f6 f7 f8 f9 f10 f11 f12 f13 fs HS4 HS3 HS HL HY2 HO2 HB2
    go_wp2
    exact bodyPost_ret (results_cell_row Tryz.results81 _ _ (w.heap.size + 1) 78 _ (0,0) _ rfl HB4.out Tryz.underlying78 rfl (by kernel_rfl)) rfl ⟨a2,c2,rfl,HK4.out,b4⟩
end
section
open Go.ChangeShapes Go.WideShapes Go.ChangeAt Go.RowKit Go.Joins Go.Deep Go.Maps
theorem a9n {w w' : World} {a : Option Addr} {c lo : Nat} {l : List Int} (r : IRow w a c l) (hi : ∀ ad,a = some ad->lo<=ad.block) (h : ∀ k,lo<=k->k < w.heap.size->w'.heap[k]? = w.heap[k]?) : IRow w' a c l:=by
  refine ⟨r.le,r.max,r.nil,?_⟩
  rcases r.at_ with h0 | ⟨b,o,e,hc⟩
  · exact .inl h0
  · refine .inr ⟨b,o,e,fun i hn => ?_⟩
    have hb:=h b (hi _ e) (a0m (hc i hn))
    rw [World.cell?_of_block (a:=⟨b,o + i,none⟩) hb]
    exact hc i hn
theorem srow_win {w w' : World} {a : Option Addr} {c lo : Nat} {l : List Sl} (r : SRow w a c l) (hi : ∀ ad,a = some ad->lo<=ad.block) (h : ∀ k,lo<=k->k < w.heap.size->w'.heap[k]? = w.heap[k]?) : SRow w' a c l:=by
  refine ⟨r.le,r.max,r.nil,?_⟩
  rcases r.at_ with h0 | ⟨b,o,e,hc⟩
  · exact .inl h0
  · refine .inr ⟨b,o,e,fun i hn => ?_⟩
    have hb:=h b (hi _ e) (a0m (hc i hn).1)
    obtain ⟨c0,c1,c2,c3,c4,c5⟩:=hc i hn
    exact ⟨(World.cell?_of_block (a:=⟨b,o + i * 6,none⟩) hb).trans c0,(World.cell?_of_block (a:=⟨b,o + i * 6 + 1,none⟩) hb).trans c1,(World.cell?_of_block (a:=⟨b,o + i * 6 + 2,none⟩) hb).trans c2,(World.cell?_of_block (a:=⟨b,o + i * 6 + 3,none⟩) hb).trans c3,(World.cell?_of_block (a:=⟨b,o + i * 6 + 4,none⟩) hb).trans c4,(World.cell?_of_block (a:=⟨b,o + i * 6 + 5,none⟩) hb).trans c5⟩
theorem WAns.win {lo : Nat} {w w' : World} {v : Value} {W : Wd} (h : WAns lo w v W) (hk : ∀ k,lo<=k->k < w.heap.size->w'.heap[k]? = w.heap[k]?) : WAns lo w' v W:=by
  obtain ⟨aS,aH,aF,aL,cS,cH,cF,cL,aT,cT,l,e,A,hi,el,r,th⟩:=h
  refine ⟨aS,aH,aF,aL,cS,cH,cF,cL,aT,cT,l,e,⟨srow_win A.s hi.s hk,a9n A.h hi.h hk,a9n A.f hi.f hk,a9n A.l hi.l hk⟩,hi,el,⟨r.le,r.max,r.nil,?_,fun p hp => a1v (r.keys p hp) fun _ ad e hl => hk _ (th.keys p hp ad e) hl,fun p hp => a9n (r.held p hp) (th.held p hp) hk⟩,th⟩
  rcases r.at_ with h0 | ⟨b,o,e,hc⟩
  · exact .inl h0
  · refine .inr ⟨b,o,e,fun i hi q hq => ?_⟩
    obtain ⟨v,hv⟩:=b2q l[i].1 l[i].2 hq
    exact (World.cell?_of_block (a:=⟨b,o + i * 16 + q,none⟩) (hk b (th.row _ e) (a0m ((hc i hi q hq).trans hv)))).trans (hc i hi q hq)
def Pst.enc (p : Pst) (a : Option Addr) (c : Nat) : List Value :=
  [Vi Qi p.task,Vi Qi p.c.kind,Vi Qi p.c.a,Vi Qi p.c.b,Vi Qi p.c.time,Vi Qi p.c.bk,Vi Qi p.c.slot,Vi Qi p.fro,Vi Qi p.to,Vi Qi p.e,Vi Qi p.slot,Vi Qi p.n,Vs a p.keys.length c]
def encP (l : List (Pst × Option Addr × Nat)) : List Value:=l.flatMap fun q => q.1.enc q.2.1 q.2.2
def Out (a b : Nat) (k : Nat) : Prop:=¬ (a<=k/\k < b)
structure Cs (lo a b : Nat) (w : World) (B1 B2 B3 B4 g : Nat) (v1 v2 v4 : Value) (said : List Int) (pl : List (Pst × Option Addr × Nat)) (beg : List Nat) (Z : List (Nat × Array Value)) : Prop where
  s : w.heap[B1]? = some (.cells #[v1] 68 (0,0))
  so : w.ownsRow lo 36 1 v1 said.length (encI said)
  sx : ∀ k,v1.ownBlock = some k->Out a b k
  f : w.heap[B3]? = some (.cells #[Vs (some ⟨g,0,none⟩) beg.length beg.length] 23 (0,0))
  fo : w.heap[g]? = some (.cells (encI (beg.map Int.ofNat)).toArray 3 (0,0))
  fx : Out a b g
  p : w.heap[B4]? = some (.cells #[v4] 69 (0,0))
  po : w.ownsRow lo 78 13 v4 pl.length (encP pl)
  px : ∀ k,v4.ownBlock = some k->Out a b k
  pk : ∀ q ∈ pl,KOwn w lo q.2.1 q.2.2 q.1.keys/\∀ ad,q.2.1 = some ad->Out a b ad.block
  o1 : lo<=B1/\Out a b B1
  o3 : lo<=B3/\Out a b B3
  o4 : lo<=B4/\Out a b B4
  og : lo<=g
  x : w.heap[B2]? = some (.cells #[v2] 54 (0,0))
  ox : lo<=B2/\Out a b B2
  z : ∀ q ∈ Z,w.heap[q.1]? = some (.cells q.2 28 (0,0))
section
variable {lo a b : Nat} {w w' : World} {B1 B2 B3 B4 g : Nat} {v1 v2 v4 : Value} {said : List Int} {pl : List (Pst × Option Addr × Nat)} {beg : List Nat} {Z : List (Nat × Array Value)}
theorem Cs.below (h : Cs lo a b w B1 B2 B3 B4 g v1 v2 v4 said pl beg Z) (hb : Below w.heap.size w w') : Cs lo a b w' B1 B2 B3 B4 g v1 v2 v4 said pl beg Z :=
  ⟨(hb.block _ (lt_of_block h.s)).trans h.s,a1u h.so fun k hk => hb.block _ (h.so.lt k hk).2,h.sx,(hb.block _ (lt_of_block h.f)).trans h.f,(hb.block _ (lt_of_block h.fo)).trans h.fo,h.fx,(hb.block _ (lt_of_block h.p)).trans h.p,a1u h.po fun k hk => hb.block _ (h.po.lt k hk).2,h.px,fun q hq => ⟨(h.pk q hq).1.below hb,(h.pk q hq).2⟩,h.o1,h.o3,h.o4,h.og,(hb.block _ (lt_of_block h.x)).trans h.x,h.ox,fun q hq => (hb.block _ (lt_of_block (h.z q hq))).trans (h.z q hq)⟩
theorem Cs.turn (h : Cs lo a b w B1 B2 B3 B4 g v1 v2 v4 said pl beg Z) (b' : Nat) : Cs lo w.heap.size b' w B1 B2 B3 B4 g v1 v2 v4 said pl beg Z :=
  have hz : ∀ k,k < w.heap.size->Out w.heap.size b' k:=fun k hk hx => by have:=hx.1; omega
  ⟨h.s,h.so,fun k hk => hz k (h.so.lt k hk).2,h.f,h.fo,hz _ (lt_of_block h.fo),h.p,h.po,fun k hk => hz k (h.po.lt k hk).2,fun q hq => ⟨(h.pk q hq).1,fun ad e => hz _ ((h.pk q hq).1.lt ad e).2⟩,⟨h.o1.1,hz _ (lt_of_block h.s)⟩,⟨h.o3.1,hz _ (lt_of_block h.f)⟩,⟨h.o4.1,hz _ (lt_of_block h.p)⟩,h.og,h.x,⟨h.ox.1,hz _ (lt_of_block h.x)⟩,h.z⟩
theorem Cs.say (h : Cs lo a b w B1 B2 B3 B4 g v1 v2 v4 said pl beg Z) (hz : b<=w.heap.size) {ob : Obj} {w1 : World} {v' : Value} {e : Int} (hg : (w.alloc ob).grownBy w1 v1.ownBlock) (ho : w1.ownsRow lo 36 1 v' (said.length + 1) (encI said ++ [Vi Qi e])) (hl : v'.ownBlock = v1.ownBlock\/v'.ownBlock = some (w.alloc ob).heap.size) :
    Cs lo a b (w1.setCell ⟨B1,0,none⟩ v') B1 B2 B3 B4 g v' v2 v4 (said ++ [e]) pl beg Z/\∀ k,a<=k->k < b->(w1.setCell ⟨B1,0,none⟩ v').heap[k]? = w.heap[k]?:=by
  have hk1 : ∀ k,k < w.heap.size->v1.ownBlock ≠ some k->w1.heap[k]? = w.heap[k]?:=fun k hk hn => by
    rw [hg.block k (by simp; omega) (fun e => hn e.symm),Below.heap_alloc _ _ _ hk]
  have hk : ∀ k,k < w.heap.size->v1.ownBlock ≠ some k->k ≠ B1->(w1.setCell ⟨B1,0,none⟩ v').heap[k]? = w.heap[k]?:=fun k hk hn hB => by
    rw [Below.heap_setCell _ _ _ _ (by dsimp only; exact hB)]
    exact hk1 k hk hn
  have s1 : w1.heap[B1]? = some (.cells #[v1] 68 (0,0)):=(hk1 B1 (lt_of_block h.s) (own_ne h.so h.s (by decide))).trans h.s
  have nb : ∀ {X : Nat} {cs : Array Value} {t : TypeId},w.heap[X]? = some (.cells cs t (0,0))->t ≠ 36->t ≠ 68->(w1.setCell ⟨B1,0,none⟩ v').heap[X]? = some (.cells cs t (0,0)):=fun hX n1 n2 => by
    refine (hk _ (lt_of_block hX) (own_ne h.so hX (Ne.symm n1)) ?_).trans hX
    rintro rfl
    rw [h.s] at hX
    injection hX with hX
    injection hX with _ hX
    exact n2 hX.symm
  have nr : ∀ {lo' size n : Nat} {t : TypeId} {u : Value} {xs : List Value},w.ownsRow lo' t size u n xs->t ≠ 36->t ≠ 68->(w1.setCell ⟨B1,0,none⟩ v').ownsRow lo' t size u n xs:=fun hu n1 n2 => by
    refine a1u hu fun k hu' => hk k (hu.lt k hu').2 (fun hv => a4i h.so hu (Ne.symm n1) k hv hu') ?_
    rintro rfl
    exact own_ne hu h.s n2 hu'
  refine ⟨⟨?_,?_,?_,nb h.f (by decide) (by decide),nb h.fo (by decide) (by decide),h.fx,nb h.p (by decide) (by decide),nr h.po (by decide) (by decide),h.px,fun q hq => ⟨⟨nr (h.pk q hq).1.own (by decide) (by decide)⟩,(h.pk q hq).2⟩,h.o1,h.o3,h.o4,h.og,nb h.x (by decide) (by decide),h.ox,fun q hq => nb (h.z q hq) (by decide) (by decide)⟩,?_⟩
  · have:=block_setCell (i:=0) s1 v'
    rw [this]; rfl
  · have:=a6q (j:=0) (x:=v') ho (own_ne ho s1 (by decide))
    rwa [show encI said ++ [Vi Qi e] = encI (said ++ [e]) by simp [encI],show said.length + 1 = (said ++ [e]).length by simp] at this
  · intro k hk'
    rcases hl with hl | hl
    · exact h.sx k (hl ▸ hk')
    · rw [hl] at hk'
      injection hk' with hk'
      intro hx
      have:=hx.2
      simp at hk'
      omega
  · intro k h1 h2
    exact hk k (by omega) (fun e => h.sx k e ⟨h1,h2⟩) (fun e => h.o1.2 (e ▸ ⟨h1,h2⟩))
theorem Cs.start (h : Cs lo a b w B1 B2 B3 B4 g v1 v2 v4 said pl beg Z) (t n : Nat) (ht : t < beg.length) :
    Cs lo a b (w.setCell ⟨g,t,none⟩ (Vi Qi n)) B1 B2 B3 B4 g v1 v2 v4 said pl (beg.set t n) Z/\∀ k,a<=k->k < b->(w.setCell ⟨g,t,none⟩ (Vi Qi n)).heap[k]? = w.heap[k]?:=by
  have hk : ∀ k,k ≠ g->(w.setCell ⟨g,t,none⟩ (Vi Qi n)).heap[k]? = w.heap[k]?:=fun k hB => Below.heap_setCell _ _ _ _ (by dsimp only; exact hB)
  have nb : ∀ {X : Nat} {cs : Array Value} {t' : TypeId},w.heap[X]? = some (.cells cs t' (0,0))->t' ≠ 3->(w.setCell ⟨g,t,none⟩ (Vi Qi n)).heap[X]? = some (.cells cs t' (0,0)):=fun hX n2 => by
    refine (hk _ ?_).trans hX
    rintro rfl
    rw [h.fo] at hX
    injection hX with hX
    injection hX with _ hX
    exact n2 hX.symm
  have nr : ∀ {lo' size n' : Nat} {t' : TypeId} {u : Value} {xs : List Value},w.ownsRow lo' t' size u n' xs->t' ≠ 3->(w.setCell ⟨g,t,none⟩ (Vi Qi n)).ownsRow lo' t' size u n' xs:=fun hu n2 => by
    refine a1u hu fun k hu' => hk k ?_
    rintro rfl
    exact own_ne hu h.fo n2 hu'
  refine ⟨⟨nb h.s (by decide),nr h.so (by decide),h.sx,?_,?_,h.fx,nb h.p (by decide),nr h.po (by decide),h.px,fun q hq => ⟨⟨nr (h.pk q hq).1.own (by decide)⟩,(h.pk q hq).2⟩,h.o1,h.o3,h.o4,h.og,nb h.x (by decide),h.ox,fun q hq => nb (h.z q hq) (by decide)⟩,fun k h1 h2 => hk k (fun e => h.fx (e ▸ ⟨h1,h2⟩))⟩
  · rw [List.length_set]; exact nb h.f (by decide)
  · rw [block_setCell (i:=t) h.fo]
    congr 1
    congr 1
    apply Array.ext'
    simp [encI,List.map_set]
end
end
section
open Go.ChangeShapes Go.WideShapes Go.ChangeAt Go.RowKit Go.Joins Go.Deep Go.Maps
def WIn (a b : Nat) (w : World) (v : Value) (W : Wd) : Prop:=∀ w',(∀ k,a<=k->k < b->w'.heap[k]? = w.heap[k]?)->WAns a w' v W
theorem WAns.wIn {a : Nat} {w : World} {v : Value} {W : Wd} (h : WAns a w v W) : WIn a w.heap.size w v W:=fun w' hk => h.win hk
theorem WIn.same {a b : Nat} {w w' : World} {v : Value} {W : Wd} (h : WIn a b w v W) (hk : ∀ k,a<=k->k < b->w'.heap[k]? = w.heap[k]?) : WIn a b w' v W:=fun w2 h2 => h w2 fun k h3 h4 => (h2 k h3 h4).trans (hk k h3 h4)
def litB (x : Pk) (e : Int) (i : Nat) (beg : List Nat) : List Nat:=if e ≠ 0\/x.tick = true then beg else if x.step then beg else beg.set x.task.toNat i
def litP (x : Pk) (e : Int) (i : Nat) (beg : List Nat) (W : Wd) (past : List Pst) : List Pst :=
  if e ≠ 0\/x.tick = true then past else if x.step then (if (W.ts.getD x.task.toNat idle).busy then past else past ++ [overP i x (beg.getD x.task.toNat 0) (W.ts.getD x.task.toNat idle)]) else past
def LitP (lo a b : Nat) (w : World) (B1 B2 B3 B4 g : Nat) (v2 : Value) (said : List Int) (past : List Pst) (beg : List Nat) (Z : List (Nat × Array Value)) (e : Ending) (w' : World) : Prop :=
  ∃ v1 v4 pl,e = .returned (.tuple #[])/\Cs lo a b w' B1 B2 B3 B4 g v1 v2 v4 said pl beg Z/\pl.map (·.1) = past/\Below lo w w'/\∀ k,a<=k->k < b->w'.heap[k]? = w.heap[k]?
theorem iE : (Tryz.prog.info? 36).map (fun i => (i.zero,i.size,i.bytes)) = some (some (Vi Qi 0),1,8):=by kernel_rfl
theorem iP : (Tryz.prog.info? 78).map (fun i => (i.zero,i.size,i.bytes)) = some (some (.agg #[Vi Qi 0,Vi Qi 0,Vi Qi 0,Vi Qi 0,Vi Qi 0,Vi Qi 0,Vi Qi 0,Vi Qi 0,Vi Qi 0,Vi Qi 0,Vi Qi 0,Vi Qi 0,Vs none 0 0]),13,120):=by kernel_rfl
theorem Cs.fat {lo a b : Nat} {w : World} {B1 B2 B3 B4 g : Nat} {v1 v2 v4 : Value} {said : List Int} {pl : List (Pst × Option Addr × Nat)} {beg : List Nat} {Z : List (Nat × Array Value)} (h : Cs lo a b w B1 B2 B3 B4 g v1 v2 v4 said pl beg Z) {t : Nat} (ht : t < beg.length) : w.cell? ⟨g,t,none⟩ = some (Vi Qi (beg.getD t 0 : Nat)):=by
  rw [cell_of_block h.fo]
  simp [encI,ht]
set_option maxHeartbeats 4000000 in
theorem lit_err (lo a b : Nat) (w : World) (B1 B2 B3 B4 g : Nat) (aP : Option Addr) (cP : Nat) (l : List Pk) (v1 v4 : Value) (said : List Int) (pl : List (Pst × Option Addr × Nat)) (beg : List Nat) (Z : List (Nat × Array Value)) (W : Wd) (v : Value) (i : Nat) (E : Int)
    (h : Cs lo a b w B1 B2 B3 B4 g v1 (Vs aP l.length cP) v4 said pl beg Z) (hz : b<=w.heap.size) (hr : PRow w aP cP l) (hrl : ∀ ad,aP = some ad->ad.block < lo) (hi : i < l.length) (hs : said.length<=300) (hps : pl.length<=300) (hW : WIn a b w v W) (hT : E ≠ 0) :
    Calls Tryz.prog 80 #[Vi Qi i,v,Vi Qi E,.pointer (some ⟨B1,0,none⟩),.pointer (some ⟨B2,0,none⟩),.pointer (some ⟨B3,0,none⟩),.pointer (some ⟨B4,0,none⟩)] w (LitP lo a b w B1 B2 B3 B4 g (Vs aP l.length cP) (said ++ [E]) (pl.map (·.1)) beg Z):=by
  obtain ⟨aS,aH,aF,aL,cS,cH,cF,cL,aT,cT,lt,rfl,-⟩:=hW w (fun _ _ _ => rfl)
  have b0 : Below w.heap.size w (w.alloc (.cells #[Vs aS W.m.slots.length cS,Vs aH W.m.heads.length cH,Vs aF W.m.free.length cF,Vs aL W.m.a0b.length cL,Vi Qi W.m.now,Vs aT W.ts.length cT] 28)):=a0c _ _
  have HC0 : Hid (Cs lo a b (w.alloc (.cells #[Vs aS W.m.slots.length cS,Vs aH W.m.heads.length cH,Vs aF W.m.free.length cF,Vs aL W.m.a0b.length cL,Vi Qi W.m.now,Vs aT W.ts.length cT] 28)) B1 B2 B3 B4 g v1 (Vs aP l.length cP) v4 said pl beg Z):=h.below b0
  have HY0 : Hid ((w.alloc (.cells #[Vs aS W.m.slots.length cS,Vs aH W.m.heads.length cH,Vs aF W.m.free.length cF,Vs aL W.m.a0b.length cL,Vi Qi W.m.now,Vs aT W.ts.length cT] 28)).heap[w.heap.size]? = some (.cells #[Vs aS W.m.slots.length cS,Vs aH W.m.heads.length cH,Vs aF W.m.free.length cF,Vs aL W.m.a0b.length cL,Vi Qi W.m.now,Vs aT W.ts.length cT] 28 (0,0))):=heap_alloc_new _ _
  have Hlz : Hid (lo<=w.heap.size):=by have:=h.o1.1; have:=lt_of_block h.s; show _<=_; omega
  have HW0 : Hid (WIn a b w (.agg #[Vs aS W.m.slots.length cS,Vs aH W.m.heads.length cH,Vs aF W.m.free.length cF,Vs aL W.m.a0b.length cL,Vi Qi W.m.now,Vs aT W.ts.length cT]) W):=hW
  have Hz : Hid (b<=w.heap.size):=hz
  rcases hr.at_ with hn | ⟨bP,oP,rfl,hx⟩
  · omega
  have hbl : bP < lo:=hrl _ rfl
  have Hrx : Hid (w.rangeAt bP (oP + i * 9) [Vi Qi (l[i]).task,.bool (l[i]).step,.bool (l[i]).tick,Vi Qi ((l[i]).c).kind,Vi Qi ((l[i]).c).a,Vi Qi ((l[i]).c).b,Vi Qi ((l[i]).c).time,Vi Qi ((l[i]).c).bk,Vi Qi ((l[i]).c).slot]):=hx i hi
  have hmax:=hr.max
  have hle:=hr.le
  obtain ⟨x,hxe⟩ : ∃ x,x = l[i]:=⟨_,rfl⟩
  have Hxe : Hid (x = l[i]):=hxe
  rw [<- hxe] at Hrx
  have HCell : Hid (∀ j u,[Value.int .i64 E][j]? = some u->(((w.alloc (.cells #[Vs aS W.m.slots.length cS,Vs aH W.m.heads.length cH,Vs aF W.m.free.length cF,Vs aL W.m.a0b.length cL,Vi Qi W.m.now,Vs aT W.ts.length cT] 28))).alloc (.cells #[Vi Qi E] 36)).cell? ((⟨w.heap.size + 1,0,none⟩ : Addr).add j) = some u):=fun j u hu => by
    have h1:=cell_one_new (w.alloc (.cells #[Vs aS W.m.slots.length cS,Vs aH W.m.heads.length cH,Vs aF W.m.free.length cF,Vs aL W.m.a0b.length cL,Vi Qi W.m.now,Vs aT W.ts.length cT] 28)) (Vi Qi E) 36 j u hu
    rwa [show (w.alloc (.cells #[Vs aS W.m.slots.length cS,Vs aH W.m.heads.length cH,Vs aF W.m.free.length cF,Vs aL W.m.a0b.length cL,Vi Qi W.m.now,Vs aT W.ts.length cT] 28)).heap.size = w.heap.size + 1 by simp] at h1
  obtain ⟨i0,hi0,hq0,hq1,hq2⟩:=info_parts iE
  obtain ⟨a1,k1,rfl⟩:=a2c HC0.out.so
  have HO : Hid ((w.alloc (.cells #[Vs aS W.m.slots.length cS,Vs aH W.m.heads.length cH,Vs aF W.m.free.length cF,Vs aL W.m.a0b.length cL,Vi Qi W.m.now,Vs aT W.ts.length cT] 28)).ownsRow lo 36 1 (Vs a1 said.length k1) said.length (encI said)):=HC0.out.so
  have HBw : Hid (∀ (w2 : World) (o : Obj) (v' : Value),((w.alloc (.cells #[Vs aS W.m.slots.length cS,Vs aH W.m.heads.length cH,Vs aF W.m.free.length cF,Vs aL W.m.a0b.length cL,Vi Qi W.m.now,Vs aT W.ts.length cT] 28)).alloc o).grownBy w2 (Value.slice a1 said.length k1).ownBlock->Below lo w (w2.setCell ⟨B1,0,none⟩ v')):=fun w2 o v' hg => a3y ((Below.mono (a0c w _) Hlz.out)) hg (fun k hk => (HO.out.lt k hk).1) (by have:=Hlz.out; simp; omega) HC0.out.o1.1
  obtain ⟨c1,f1,l1⟩:=a0j HC0.out.s
  clear h hW hr b0 hrl hx hz hxe
  go_enter Tryz.func80,Tryz.ntmps80
  go_wp2_with (first | (at_builtin; refine wpList_append_own_at _ rfl (.tmp 12) (.tmp 14) 68 rfl lo 36 i0 (Vi Qi 0) 1 8 Tryz.underlying68 hi0 hq0 hq1 hq2 rfl (by decide) _ _ _ rfl (HO.out.alloc _) ⟨w.heap.size + 1,0,none⟩ 1 1 [Vi Qi E] rfl rfl HCell.out (by intro u hu; simp at hu; subst hu; rfl) (by unfold maxLen; omega) (by omega) (by have:=Hlz.out; simp; omega) ?_; intro v2 w2 ho2 hg2 _ hloc2; obtain ⟨g2,cap2,rfl⟩:=ownsRow_form ho2 (by omega); have HC1 : Hid _:=Cs.say HC0.out (by have:=Hz.out; simp; omega) hg2 ho2 hloc2; obtain ⟨d1,e1,lB2⟩:=a0j (a2e HC0.out.s hg2 (own_ne HO.out HC0.out.s (by decide))); have HB1 : Hid _:=HBw.out _ _ (Vs (some ⟨g2,0,none⟩) (said.length + 1) cap2) hg2; obtain ⟨d2,e2,lB3⟩:=a0j HC1.out.1.x; have Hrx1 : Hid _:=a2w Hrx.out HB1.out hbl; have HC2:=fun o : Obj => HC1.out.1.below (a0c _ o); have d3:=fun o : Obj => (a0j (HC2 o).f).1; have e3:=fun o : Obj => (a0j (HC2 o).f).2.1; have d4:=fun o : Obj => (a0j (HC2 o).p).1; have e4:=fun o : Obj => (a0j (HC2 o).p).2.1;  clear HC2 c1 f1 l1 ho2 hg2 hloc2 HC0 HO HBw) | refine wl_X rfl _ rfl rfl Hrx1.out ?_)
  refine bodyPost_ret (results_none rfl _ _ _) rfl ?_
  have hq : ∀ o : Obj,Below lo w (World.alloc _ o):=fun o => HB1.out.alloc (by have:=HB1.out.size; have:=Hlz.out; omega) o
  exact ⟨_,v4,pl,rfl,HC1.out.1.below (a0c _ _),rfl,hq _,fun k h1 h2 => ((a0c _ _).block k (by have:=HB1.out.size; have:=Hz.out; omega)).trans ((HC1.out.2 k h1 h2).trans ((a0c _ _).block k (by have:=Hz.out; omega)))⟩
set_option maxHeartbeats 4000000 in
theorem lit_tick (lo a b : Nat) (w : World) (B1 B2 B3 B4 g : Nat) (aP : Option Addr) (cP : Nat) (l : List Pk) (v1 v4 : Value) (said : List Int) (pl : List (Pst × Option Addr × Nat)) (beg : List Nat) (Z : List (Nat × Array Value)) (W : Wd) (v : Value) (i : Nat) (E : Int)
    (h : Cs lo a b w B1 B2 B3 B4 g v1 (Vs aP l.length cP) v4 said pl beg Z) (hz : b<=w.heap.size) (hr : PRow w aP cP l) (hrl : ∀ ad,aP = some ad->ad.block < lo) (hi : i < l.length) (hs : said.length<=300) (hps : pl.length<=300) (hW : WIn a b w v W) (hE : E = 0) (hT : (l[i]'hi).tick = true) :
    Calls Tryz.prog 80 #[Vi Qi i,v,Vi Qi E,.pointer (some ⟨B1,0,none⟩),.pointer (some ⟨B2,0,none⟩),.pointer (some ⟨B3,0,none⟩),.pointer (some ⟨B4,0,none⟩)] w (LitP lo a b w B1 B2 B3 B4 g (Vs aP l.length cP) (said ++ [E]) (pl.map (·.1)) beg Z):=by
  obtain ⟨aS,aH,aF,aL,cS,cH,cF,cL,aT,cT,lt,rfl,-⟩:=hW w (fun _ _ _ => rfl)
  subst hE
  have b0 : Below w.heap.size w (w.alloc (.cells #[Vs aS W.m.slots.length cS,Vs aH W.m.heads.length cH,Vs aF W.m.free.length cF,Vs aL W.m.a0b.length cL,Vi Qi W.m.now,Vs aT W.ts.length cT] 28)):=a0c _ _
  have HC0 : Hid (Cs lo a b (w.alloc (.cells #[Vs aS W.m.slots.length cS,Vs aH W.m.heads.length cH,Vs aF W.m.free.length cF,Vs aL W.m.a0b.length cL,Vi Qi W.m.now,Vs aT W.ts.length cT] 28)) B1 B2 B3 B4 g v1 (Vs aP l.length cP) v4 said pl beg Z):=h.below b0
  have HY0 : Hid ((w.alloc (.cells #[Vs aS W.m.slots.length cS,Vs aH W.m.heads.length cH,Vs aF W.m.free.length cF,Vs aL W.m.a0b.length cL,Vi Qi W.m.now,Vs aT W.ts.length cT] 28)).heap[w.heap.size]? = some (.cells #[Vs aS W.m.slots.length cS,Vs aH W.m.heads.length cH,Vs aF W.m.free.length cF,Vs aL W.m.a0b.length cL,Vi Qi W.m.now,Vs aT W.ts.length cT] 28 (0,0))):=heap_alloc_new _ _
  have Hlz : Hid (lo<=w.heap.size):=by have:=h.o1.1; have:=lt_of_block h.s; show _<=_; omega
  have HW0 : Hid (WIn a b w (.agg #[Vs aS W.m.slots.length cS,Vs aH W.m.heads.length cH,Vs aF W.m.free.length cF,Vs aL W.m.a0b.length cL,Vi Qi W.m.now,Vs aT W.ts.length cT]) W):=hW
  have Hz : Hid (b<=w.heap.size):=hz
  rcases hr.at_ with hn | ⟨bP,oP,rfl,hx⟩
  · omega
  have hbl : bP < lo:=hrl _ rfl
  have Hrx : Hid (w.rangeAt bP (oP + i * 9) [Vi Qi (l[i]).task,.bool (l[i]).step,.bool (l[i]).tick,Vi Qi ((l[i]).c).kind,Vi Qi ((l[i]).c).a,Vi Qi ((l[i]).c).b,Vi Qi ((l[i]).c).time,Vi Qi ((l[i]).c).bk,Vi Qi ((l[i]).c).slot]):=hx i hi
  have hmax:=hr.max
  have hle:=hr.le
  obtain ⟨x,hxe⟩ : ∃ x,x = l[i]:=⟨_,rfl⟩
  have Hxe : Hid (x = l[i]):=hxe
  rw [<- hxe] at Hrx hT
  have HCell : Hid (∀ j u,[Value.int .i64 0][j]? = some u->(((w.alloc (.cells #[Vs aS W.m.slots.length cS,Vs aH W.m.heads.length cH,Vs aF W.m.free.length cF,Vs aL W.m.a0b.length cL,Vi Qi W.m.now,Vs aT W.ts.length cT] 28))).alloc (.cells #[Vi Qi 0] 36)).cell? ((⟨w.heap.size + 1,0,none⟩ : Addr).add j) = some u):=fun j u hu => by
    have h1:=cell_one_new (w.alloc (.cells #[Vs aS W.m.slots.length cS,Vs aH W.m.heads.length cH,Vs aF W.m.free.length cF,Vs aL W.m.a0b.length cL,Vi Qi W.m.now,Vs aT W.ts.length cT] 28)) (Vi Qi 0) 36 j u hu
    rwa [show (w.alloc (.cells #[Vs aS W.m.slots.length cS,Vs aH W.m.heads.length cH,Vs aF W.m.free.length cF,Vs aL W.m.a0b.length cL,Vi Qi W.m.now,Vs aT W.ts.length cT] 28)).heap.size = w.heap.size + 1 by simp] at h1
  obtain ⟨i0,hi0,hq0,hq1,hq2⟩:=info_parts iE
  obtain ⟨a1,k1,rfl⟩:=a2c HC0.out.so
  have HO : Hid ((w.alloc (.cells #[Vs aS W.m.slots.length cS,Vs aH W.m.heads.length cH,Vs aF W.m.free.length cF,Vs aL W.m.a0b.length cL,Vi Qi W.m.now,Vs aT W.ts.length cT] 28)).ownsRow lo 36 1 (Vs a1 said.length k1) said.length (encI said)):=HC0.out.so
  have HBw : Hid (∀ (w2 : World) (o : Obj) (v' : Value),((w.alloc (.cells #[Vs aS W.m.slots.length cS,Vs aH W.m.heads.length cH,Vs aF W.m.free.length cF,Vs aL W.m.a0b.length cL,Vi Qi W.m.now,Vs aT W.ts.length cT] 28)).alloc o).grownBy w2 (Value.slice a1 said.length k1).ownBlock->Below lo w (w2.setCell ⟨B1,0,none⟩ v')):=fun w2 o v' hg => a3y ((Below.mono (a0c w _) Hlz.out)) hg (fun k hk => (HO.out.lt k hk).1) (by have:=Hlz.out; simp; omega) HC0.out.o1.1
  obtain ⟨c1,f1,l1⟩:=a0j HC0.out.s
  clear h hW hr b0 hrl hx hz hxe
  go_enter Tryz.func80,Tryz.ntmps80
  go_wp2_with (first | (at_builtin; refine wpList_append_own_at _ rfl (.tmp 12) (.tmp 14) 68 rfl lo 36 i0 (Vi Qi 0) 1 8 Tryz.underlying68 hi0 hq0 hq1 hq2 rfl (by decide) _ _ _ rfl (HO.out.alloc _) ⟨w.heap.size + 1,0,none⟩ 1 1 [Vi Qi 0] rfl rfl HCell.out (by intro u hu; simp at hu; subst hu; rfl) (by unfold maxLen; omega) (by omega) (by have:=Hlz.out; simp; omega) ?_; intro v2 w2 ho2 hg2 _ hloc2; obtain ⟨g2,cap2,rfl⟩:=ownsRow_form ho2 (by omega); have HC1 : Hid _:=Cs.say HC0.out (by have:=Hz.out; simp; omega) hg2 ho2 hloc2; obtain ⟨d1,e1,lB2⟩:=a0j (a2e HC0.out.s hg2 (own_ne HO.out HC0.out.s (by decide))); have HB1 : Hid _:=HBw.out _ _ (Vs (some ⟨g2,0,none⟩) (said.length + 1) cap2) hg2; obtain ⟨d2,e2,lB3⟩:=a0j HC1.out.1.x; have Hrx1 : Hid _:=a2w Hrx.out HB1.out hbl; have HC2:=fun o : Obj => HC1.out.1.below (a0c _ o); have d3:=fun o : Obj => (a0j (HC2 o).f).1; have e3:=fun o : Obj => (a0j (HC2 o).f).2.1; have d4:=fun o : Obj => (a0j (HC2 o).p).1; have e4:=fun o : Obj => (a0j (HC2 o).p).2.1;  clear HC2 c1 f1 l1 ho2 hg2 hloc2 HC0 HO HBw) | refine wl_X rfl _ rfl rfl Hrx1.out ?_)
  refine bodyPost_ret (results_none rfl _ _ _) rfl ?_
  have hq : ∀ o : Obj,Below lo w (World.alloc _ o):=fun o => HB1.out.alloc (by have:=HB1.out.size; have:=Hlz.out; omega) o
  exact ⟨_,v4,pl,rfl,HC1.out.1.below (a0c _ _),rfl,hq _,fun k h1 h2 => ((a0c _ _).block k (by have:=HB1.out.size; have:=Hz.out; omega)).trans ((HC1.out.2 k h1 h2).trans ((a0c _ _).block k (by have:=Hz.out; omega)))⟩
set_option maxHeartbeats 4000000 in
theorem c0w (lo a b : Nat) (w : World) (B1 B2 B3 B4 g : Nat) (aP : Option Addr) (cP : Nat) (l : List Pk) (v1 v4 : Value) (said : List Int) (pl : List (Pst × Option Addr × Nat)) (beg : List Nat) (Z : List (Nat × Array Value)) (W : Wd) (v : Value) (i : Nat) (E : Int)
    (h : Cs lo a b w B1 B2 B3 B4 g v1 (Vs aP l.length cP) v4 said pl beg Z) (hz : b<=w.heap.size) (hr : PRow w aP cP l) (hrl : ∀ ad,aP = some ad->ad.block < lo) (hi : i < l.length) (hs : said.length<=300) (hps : pl.length<=300) (hW : WIn a b w v W) (hE : E = 0) (hT : (l[i]'hi).tick = false) (hS : (l[i]'hi).step = false) (hk : 0<=(l[i]'hi).task/\(l[i]'hi).task < beg.length) :
    Calls Tryz.prog 80 #[Vi Qi i,v,Vi Qi E,.pointer (some ⟨B1,0,none⟩),.pointer (some ⟨B2,0,none⟩),.pointer (some ⟨B3,0,none⟩),.pointer (some ⟨B4,0,none⟩)] w (LitP lo a b w B1 B2 B3 B4 g (Vs aP l.length cP) (said ++ [E]) (pl.map (·.1)) (beg.set (l[i]'hi).task.toNat i) Z):=by
  obtain ⟨aS,aH,aF,aL,cS,cH,cF,cL,aT,cT,lt,rfl,-⟩:=hW w (fun _ _ _ => rfl)
  subst hE
  have b0 : Below w.heap.size w (w.alloc (.cells #[Vs aS W.m.slots.length cS,Vs aH W.m.heads.length cH,Vs aF W.m.free.length cF,Vs aL W.m.a0b.length cL,Vi Qi W.m.now,Vs aT W.ts.length cT] 28)):=a0c _ _
  have HC0 : Hid (Cs lo a b (w.alloc (.cells #[Vs aS W.m.slots.length cS,Vs aH W.m.heads.length cH,Vs aF W.m.free.length cF,Vs aL W.m.a0b.length cL,Vi Qi W.m.now,Vs aT W.ts.length cT] 28)) B1 B2 B3 B4 g v1 (Vs aP l.length cP) v4 said pl beg Z):=h.below b0
  have HY0 : Hid ((w.alloc (.cells #[Vs aS W.m.slots.length cS,Vs aH W.m.heads.length cH,Vs aF W.m.free.length cF,Vs aL W.m.a0b.length cL,Vi Qi W.m.now,Vs aT W.ts.length cT] 28)).heap[w.heap.size]? = some (.cells #[Vs aS W.m.slots.length cS,Vs aH W.m.heads.length cH,Vs aF W.m.free.length cF,Vs aL W.m.a0b.length cL,Vi Qi W.m.now,Vs aT W.ts.length cT] 28 (0,0))):=heap_alloc_new _ _
  have Hlz : Hid (lo<=w.heap.size):=by have:=h.o1.1; have:=lt_of_block h.s; show _<=_; omega
  have HW0 : Hid (WIn a b w (.agg #[Vs aS W.m.slots.length cS,Vs aH W.m.heads.length cH,Vs aF W.m.free.length cF,Vs aL W.m.a0b.length cL,Vi Qi W.m.now,Vs aT W.ts.length cT]) W):=hW
  have Hz : Hid (b<=w.heap.size):=hz
  rcases hr.at_ with hn | ⟨bP,oP,rfl,hx⟩
  · omega
  have hbl : bP < lo:=hrl _ rfl
  have Hrx : Hid (w.rangeAt bP (oP + i * 9) [Vi Qi (l[i]).task,.bool (l[i]).step,.bool (l[i]).tick,Vi Qi ((l[i]).c).kind,Vi Qi ((l[i]).c).a,Vi Qi ((l[i]).c).b,Vi Qi ((l[i]).c).time,Vi Qi ((l[i]).c).bk,Vi Qi ((l[i]).c).slot]):=hx i hi
  have hmax:=hr.max
  have hle:=hr.le
  obtain ⟨x,hxe⟩ : ∃ x,x = l[i]:=⟨_,rfl⟩
  have Hxe : Hid (x = l[i]):=hxe
  rw [<- hxe] at Hrx hT hS hk ⊢
  have HCell : Hid (∀ j u,[Value.int .i64 0][j]? = some u->(((w.alloc (.cells #[Vs aS W.m.slots.length cS,Vs aH W.m.heads.length cH,Vs aF W.m.free.length cF,Vs aL W.m.a0b.length cL,Vi Qi W.m.now,Vs aT W.ts.length cT] 28))).alloc (.cells #[Vi Qi 0] 36)).cell? ((⟨w.heap.size + 1,0,none⟩ : Addr).add j) = some u):=fun j u hu => by
    have h1:=cell_one_new (w.alloc (.cells #[Vs aS W.m.slots.length cS,Vs aH W.m.heads.length cH,Vs aF W.m.free.length cF,Vs aL W.m.a0b.length cL,Vi Qi W.m.now,Vs aT W.ts.length cT] 28)) (Vi Qi 0) 36 j u hu
    rwa [show (w.alloc (.cells #[Vs aS W.m.slots.length cS,Vs aH W.m.heads.length cH,Vs aF W.m.free.length cF,Vs aL W.m.a0b.length cL,Vi Qi W.m.now,Vs aT W.ts.length cT] 28)).heap.size = w.heap.size + 1 by simp] at h1
  obtain ⟨i0,hi0,hq0,hq1,hq2⟩:=info_parts iE
  obtain ⟨a1,k1,rfl⟩:=a2c HC0.out.so
  have HO : Hid ((w.alloc (.cells #[Vs aS W.m.slots.length cS,Vs aH W.m.heads.length cH,Vs aF W.m.free.length cF,Vs aL W.m.a0b.length cL,Vi Qi W.m.now,Vs aT W.ts.length cT] 28)).ownsRow lo 36 1 (Vs a1 said.length k1) said.length (encI said)):=HC0.out.so
  have HBw : Hid (∀ (w2 : World) (o : Obj) (v' : Value),((w.alloc (.cells #[Vs aS W.m.slots.length cS,Vs aH W.m.heads.length cH,Vs aF W.m.free.length cF,Vs aL W.m.a0b.length cL,Vi Qi W.m.now,Vs aT W.ts.length cT] 28)).alloc o).grownBy w2 (Value.slice a1 said.length k1).ownBlock->Below lo w (w2.setCell ⟨B1,0,none⟩ v')):=fun w2 o v' hg => a3y ((Below.mono (a0c w _) Hlz.out)) hg (fun k hk => (HO.out.lt k hk).1) (by have:=Hlz.out; simp; omega) HC0.out.o1.1
  obtain ⟨c1,f1,l1⟩:=a0j HC0.out.s
  clear h hW hr b0 hrl hx hz hxe
  go_enter Tryz.func80,Tryz.ntmps80
  go_wp2_with (first | (at_builtin; refine wpList_append_own_at _ rfl (.tmp 12) (.tmp 14) 68 rfl lo 36 i0 (Vi Qi 0) 1 8 Tryz.underlying68 hi0 hq0 hq1 hq2 rfl (by decide) _ _ _ rfl (HO.out.alloc _) ⟨w.heap.size + 1,0,none⟩ 1 1 [Vi Qi 0] rfl rfl HCell.out (by intro u hu; simp at hu; subst hu; rfl) (by unfold maxLen; omega) (by omega) (by have:=Hlz.out; simp; omega) ?_; intro v2 w2 ho2 hg2 _ hloc2; obtain ⟨g2,cap2,rfl⟩:=ownsRow_form ho2 (by omega); have HC1 : Hid _:=Cs.say HC0.out (by have:=Hz.out; simp; omega) hg2 ho2 hloc2; obtain ⟨d1,e1,lB2⟩:=a0j (a2e HC0.out.s hg2 (own_ne HO.out HC0.out.s (by decide))); have HB1 : Hid _:=HBw.out _ _ (Vs (some ⟨g2,0,none⟩) (said.length + 1) cap2) hg2; obtain ⟨d2,e2,lB3⟩:=a0j HC1.out.1.x; have Hrx1 : Hid _:=a2w Hrx.out HB1.out hbl; have HC2:=fun o : Obj => HC1.out.1.below (a0c _ o); have d3:=fun o : Obj => (a0j (HC2 o).f).1; have e3:=fun o : Obj => (a0j (HC2 o).f).2.1; have d4:=fun o : Obj => (a0j (HC2 o).p).1; have e4:=fun o : Obj => (a0j (HC2 o).p).2.1; have hk1:=hk.1; have hk2:=hk.2; have e5:=fun o : Obj => unfrozen_of_block (HC2 o).fo x.task.toNat; have d5:=fun o : Obj => Cs.fat (HC2 o) (t:=x.task.toNat) (by omega); clear HC2 c1 f1 l1 ho2 hg2 hloc2 HC0 HO HBw) | refine wl_X rfl _ rfl rfl Hrx1.out ?_)
  refine bodyPost_end (results_none rfl _ _ _) rfl ?_
  have hq : ∀ o : Obj,Below lo w (World.alloc _ o):=fun o => HB1.out.alloc (by have:=HB1.out.size; have:=Hlz.out; omega) o
  have hs2:=fun o : Obj => Cs.start (HC1.out.1.below (a0c _ o)) x.task.toNat i (by omega)
  exact ⟨_,v4,pl,rfl,(hs2 _).1,rfl,(hq _).setCell HC1.out.1.og _,fun k h1 h2 => ((hs2 _).2 k h1 h2).trans (((a0c _ _).block k (by have:=HB1.out.size; have:=Hz.out; omega)).trans ((HC1.out.2 k h1 h2).trans ((a0c _ _).block k (by have:=Hz.out; omega))))⟩
end
section
open Go.ChangeShapes Go.WideShapes Go.ChangeAt Go.RowKit Go.Joins Go.Deep Go.Maps
theorem b6x {a : Nat} {w : World} {aS aH aF aL : Option Addr} {cS cH cF cL : Nat} {aT : Option Addr} {cT : Nat} {W : Wd} (h : WAns a w (.agg #[Vs aS W.m.slots.length cS,Vs aH W.m.heads.length cH,Vs aF W.m.free.length cF,Vs aL W.m.a0b.length cL,Vi Qi W.m.now,Vs aT W.ts.length cT]) W) {t : Nat} (ht : t < W.ts.length) :
    ∃ lt : TkV,Hid (KRow w lt.aK lt.cK (W.ts.getD t idle).f.keys)/\W.ts.length<=cT/\∃ p q,aT = some ⟨p,q,none⟩/\Hid (w.rangeAt p (q + t * 16) ((W.ts.getD t idle).enc lt)):=by
  obtain ⟨bS,bH,bF,bL,dS,dH,dF,dL,bT,dT,lt,e,A,hi,hts,hT,hTh⟩:=h
  have e1:=Value.agg.inj e
  simp only [Array.mk.injEq,List.cons.injEq,Value.slice.injEq,true_and,and_true] at e1
  obtain ⟨-,-,-,-,rfl,rfl⟩:=e1
  have hl : W.ts.length = lt.length:=by rw [hts,List.length_map]
  have hg : W.ts.getD t idle = lt[t].1:=by rw [List.getD_eq_getElem?_getD,hts]; simp [show t < lt.length by omega]
  obtain ⟨p,q,rfl⟩:=hT.addr (by omega)
  refine ⟨lt[t].2,?_,by have:=hT.le; omega,p,q,rfl,?_⟩
  · rw [hg]; exact hT.keys _ (List.getElem_mem _)
  · rw [hg]; exact hT.range (by omega)
set_option maxHeartbeats 4000000 in
theorem lit_busy (lo a b : Nat) (w : World) (B1 B2 B3 B4 g : Nat) (aP : Option Addr) (cP : Nat) (l : List Pk) (v1 v4 : Value) (said : List Int) (pl : List (Pst × Option Addr × Nat)) (beg : List Nat) (Z : List (Nat × Array Value)) (W : Wd) (v : Value) (i : Nat) (E : Int)
    (h : Cs lo a b w B1 B2 B3 B4 g v1 (Vs aP l.length cP) v4 said pl beg Z) (hz : b<=w.heap.size) (hr : PRow w aP cP l) (hrl : ∀ ad,aP = some ad->ad.block < lo) (hi : i < l.length) (hs : said.length<=300) (hps : pl.length<=300) (hW : WIn a b w v W) (hE : E = 0) (hT : (l[i]'hi).tick = false) (hS : (l[i]'hi).step = true) (hk : 0<=(l[i]'hi).task/\(l[i]'hi).task < W.ts.length) (hB : (W.ts.getD (l[i]'hi).task.toNat idle).busy = true) :
    Calls Tryz.prog 80 #[Vi Qi i,v,Vi Qi E,.pointer (some ⟨B1,0,none⟩),.pointer (some ⟨B2,0,none⟩),.pointer (some ⟨B3,0,none⟩),.pointer (some ⟨B4,0,none⟩)] w (LitP lo a b w B1 B2 B3 B4 g (Vs aP l.length cP) (said ++ [E]) (pl.map (·.1)) beg Z):=by
  obtain ⟨aS,aH,aF,aL,cS,cH,cF,cL,aT,cT,lt,rfl,-⟩:=hW w (fun _ _ _ => rfl)
  subst hE
  have hk0 : (l[i]'hi).task.toNat < W.ts.length:=by omega
  obtain ⟨-,-,hcT,pT,qT,rfl,-⟩:=b6x (hW w fun _ _ _ => rfl) hk0
  clear hk0
  have b0 : Below w.heap.size w (w.alloc (.cells #[Vs aS W.m.slots.length cS,Vs aH W.m.heads.length cH,Vs aF W.m.free.length cF,Vs aL W.m.a0b.length cL,Vi Qi W.m.now,Vs (some ⟨pT,qT,none⟩) W.ts.length cT] 28)):=a0c _ _
  have HC0 : Hid (Cs lo a b (w.alloc (.cells #[Vs aS W.m.slots.length cS,Vs aH W.m.heads.length cH,Vs aF W.m.free.length cF,Vs aL W.m.a0b.length cL,Vi Qi W.m.now,Vs (some ⟨pT,qT,none⟩) W.ts.length cT] 28)) B1 B2 B3 B4 g v1 (Vs aP l.length cP) v4 said pl beg Z):=h.below b0
  have HY0 : Hid ((w.alloc (.cells #[Vs aS W.m.slots.length cS,Vs aH W.m.heads.length cH,Vs aF W.m.free.length cF,Vs aL W.m.a0b.length cL,Vi Qi W.m.now,Vs (some ⟨pT,qT,none⟩) W.ts.length cT] 28)).heap[w.heap.size]? = some (.cells #[Vs aS W.m.slots.length cS,Vs aH W.m.heads.length cH,Vs aF W.m.free.length cF,Vs aL W.m.a0b.length cL,Vi Qi W.m.now,Vs (some ⟨pT,qT,none⟩) W.ts.length cT] 28 (0,0))):=heap_alloc_new _ _
  have Hlz : Hid (lo<=w.heap.size):=by have:=h.o1.1; have:=lt_of_block h.s; show _<=_; omega
  have HW0 : Hid (WIn a b w (.agg #[Vs aS W.m.slots.length cS,Vs aH W.m.heads.length cH,Vs aF W.m.free.length cF,Vs aL W.m.a0b.length cL,Vi Qi W.m.now,Vs (some ⟨pT,qT,none⟩) W.ts.length cT]) W):=hW
  have Hz : Hid (b<=w.heap.size):=hz
  rcases hr.at_ with hn | ⟨bP,oP,rfl,hx⟩
  · omega
  have hbl : bP < lo:=hrl _ rfl
  have Hrx : Hid (w.rangeAt bP (oP + i * 9) [Vi Qi (l[i]).task,.bool (l[i]).step,.bool (l[i]).tick,Vi Qi ((l[i]).c).kind,Vi Qi ((l[i]).c).a,Vi Qi ((l[i]).c).b,Vi Qi ((l[i]).c).time,Vi Qi ((l[i]).c).bk,Vi Qi ((l[i]).c).slot]):=hx i hi
  have hmax:=hr.max
  have hle:=hr.le
  obtain ⟨x,hxe⟩ : ∃ x,x = l[i]:=⟨_,rfl⟩
  have Hxe : Hid (x = l[i]):=hxe
  rw [<- hxe] at Hrx hT hS hk hB 
  obtain ⟨xt,xs,xk,xc⟩:=x
  dsimp only at Hrx hT hS hk hB 
  subst hT hS
  obtain ⟨tk,rfl⟩ : ∃ tk : Nat,xt = tk:=⟨xt.toNat,by omega⟩
  rw [Int.toNat_natCast] at hB 
  have hk2 : tk < W.ts.length:=by omega
  have l1w : B1 < w.heap.size:=lt_of_block h.s
  obtain ⟨t,hte⟩ : ∃ t,t = W.ts.getD tk idle:=⟨_,rfl⟩
  have Hte : Hid (t = W.ts.getD tk idle):=hte
  rw [<- hte] at hB 
  clear hte
  have HCell : Hid (∀ j u,[Value.int .i64 0][j]? = some u->(((w.alloc (.cells #[Vs aS W.m.slots.length cS,Vs aH W.m.heads.length cH,Vs aF W.m.free.length cF,Vs aL W.m.a0b.length cL,Vi Qi W.m.now,Vs (some ⟨pT,qT,none⟩) W.ts.length cT] 28))).alloc (.cells #[Vi Qi 0] 36)).cell? ((⟨w.heap.size + 1,0,none⟩ : Addr).add j) = some u):=fun j u hu => by
    have h1:=cell_one_new (w.alloc (.cells #[Vs aS W.m.slots.length cS,Vs aH W.m.heads.length cH,Vs aF W.m.free.length cF,Vs aL W.m.a0b.length cL,Vi Qi W.m.now,Vs (some ⟨pT,qT,none⟩) W.ts.length cT] 28)) (Vi Qi 0) 36 j u hu
    rwa [show (w.alloc (.cells #[Vs aS W.m.slots.length cS,Vs aH W.m.heads.length cH,Vs aF W.m.free.length cF,Vs aL W.m.a0b.length cL,Vi Qi W.m.now,Vs (some ⟨pT,qT,none⟩) W.ts.length cT] 28)).heap.size = w.heap.size + 1 by simp] at h1
  obtain ⟨i0,hi0,hq0,hq1,hq2⟩:=info_parts iE
  obtain ⟨a1,k1,rfl⟩:=a2c HC0.out.so
  have HO : Hid ((w.alloc (.cells #[Vs aS W.m.slots.length cS,Vs aH W.m.heads.length cH,Vs aF W.m.free.length cF,Vs aL W.m.a0b.length cL,Vi Qi W.m.now,Vs (some ⟨pT,qT,none⟩) W.ts.length cT] 28)).ownsRow lo 36 1 (Vs a1 said.length k1) said.length (encI said)):=HC0.out.so
  have HBw : Hid (∀ (w2 : World) (o : Obj) (v' : Value),((w.alloc (.cells #[Vs aS W.m.slots.length cS,Vs aH W.m.heads.length cH,Vs aF W.m.free.length cF,Vs aL W.m.a0b.length cL,Vi Qi W.m.now,Vs (some ⟨pT,qT,none⟩) W.ts.length cT] 28)).alloc o).grownBy w2 (Value.slice a1 said.length k1).ownBlock->Below lo w (w2.setCell ⟨B1,0,none⟩ v')):=fun w2 o v' hg => a3y ((Below.mono (a0c w _) Hlz.out)) hg (fun k hk => (HO.out.lt k hk).1) (by have:=Hlz.out; simp; omega) HC0.out.o1.1
  obtain ⟨c1,f1,l1⟩:=a0j HC0.out.s
  clear h hW hr b0 hrl hx hz hxe
  go_enter Tryz.func80,Tryz.ntmps80
  go_wp2_with (first | (at_builtin; go_loud (refine wpList_append_own_at _ rfl (.tmp 12) (.tmp 14) 68 rfl lo 36 i0 (Vi Qi 0) 1 8 Tryz.underlying68 hi0 hq0 hq1 hq2 rfl (by decide) _ _ _ rfl (HO.out.alloc _) ⟨w.heap.size + 1,0,none⟩ 1 1 [Vi Qi 0] rfl rfl HCell.out (by intro u hu; simp at hu; subst hu; rfl) (by unfold maxLen; omega) (by omega) (by have:=Hlz.out; simp; omega) ?_; intro v2 w2 ho2 hg2 _ hloc2; obtain ⟨g2,cap2,rfl⟩:=ownsRow_form ho2 (by omega); have HC1 : Hid _:=Cs.say HC0.out (by have:=Hz.out; simp; omega) hg2 ho2 hloc2; obtain ⟨d1,e1,lB2⟩:=a0j (a2e HC0.out.s hg2 (own_ne HO.out HC0.out.s (by decide))); have HB1 : Hid _:=HBw.out _ _ (Vs (some ⟨g2,0,none⟩) (said.length + 1) cap2) hg2; obtain ⟨d2,e2,lB3⟩:=a0j HC1.out.1.x; have Hrx1 : Hid _:=a2w Hrx.out HB1.out hbl; have HZ2 : Hid _:=a2e HY0.out hg2 (own_ne HO.out HY0.out (by decide)); have hz2:=lt_of_block HZ2.out; have HZ3 : Hid ((World.heap (World.alloc (World.setCell w2 ⟨B1,0,none⟩ (Vs (some ⟨g2,0,none⟩) (said.length + 1) cap2)) (.cells #[Vi Qi tk,.bool true,.bool false,Vi Qi xc.kind,Vi Qi xc.a,Vi Qi xc.b,Vi Qi xc.time,Vi Qi xc.bk,Vi Qi xc.slot] 34)))[w.heap.size]? = some (.cells #[Vs aS W.m.slots.length cS,Vs aH W.m.heads.length cH,Vs aF W.m.free.length cF,Vs aL W.m.a0b.length cL,Vi Qi W.m.now,Vs (some ⟨pT,qT,none⟩) W.ts.length cT] 28 (0,0))):=((a0c _ _).block _ (by first | (simp; done) | (simp; omega) | (have:=HB1.out.size; omega))).trans ((Below.heap_setCell _ _ _ _ (by dsimp only; omega)).trans HZ2.out); obtain ⟨z0,z1,z2,z3,z4,z5,zs⟩:=a1w HZ3.out; have HWn : Hid _:=HW0.out (World.alloc (World.setCell w2 ⟨B1,0,none⟩ (Vs (some ⟨g2,0,none⟩) (said.length + 1) cap2)) (.cells #[Vi Qi tk,.bool true,.bool false,Vi Qi xc.kind,Vi Qi xc.a,Vi Qi xc.b,Vi Qi xc.time,Vi Qi xc.bk,Vi Qi xc.slot] 34)) (fun k h1 h2 => ((a0c _ _).block k (by have:=HB1.out.size; have:=Hz.out; omega)).trans ((HC1.out.2 k h1 h2).trans ((a0c _ _).block k (by have:=Hz.out; omega)))); obtain ⟨lt2,hts2,ht2,p2,q2,hpT,Hrt⟩:=b6x HWn.out hk2; cases hpT; rw [<- Hte.out] at Hrt hts2; clear c1 f1 l1 ho2 hg2 hloc2 HC0 HO HBw)) | refine wl_X (x0:=⟨(tk : Int),true,false,xc⟩) rfl _ rfl rfl Hrx1.out ?_ | refine wl_T rfl _ rfl rfl Hrt.out ?_)
  refine bodyPost_end (results_none rfl _ _ _) rfl ?_
  have hq : ∀ o : Obj,Below lo w (World.alloc _ o):=fun o => HB1.out.alloc (by have:=HB1.out.size; have:=Hlz.out; omega) o
  have hq2 : ∀ o o2 : Obj,Below lo w (World.alloc (World.alloc _ o) o2):=fun o o2 => (hq o).alloc (by have:=(hq o).size; have:=Hlz.out; omega) o2
  exact ⟨_,v4,pl,rfl,(HC1.out.1.below (a0c _ _)).below (a0c _ _),rfl,hq2 _ _,fun k h1 h2 => ((a0c _ _).block k (by have:=(hq (.cells #[] 0)).size; have:=HB1.out.size; have:=Hz.out; simp; omega)).trans (((a0c _ _).block k (by have:=HB1.out.size; have:=Hz.out; omega)).trans ((HC1.out.2 k h1 h2).trans ((a0c _ _).block k (by have:=Hz.out; omega))))⟩
end
end Go.Proofs.YthhgoenomehobaaGreat.mm
