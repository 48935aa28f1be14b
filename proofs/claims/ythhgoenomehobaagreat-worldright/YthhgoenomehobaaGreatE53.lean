/- Parts. -/
import Derived.Test.YthhgoenomehobaaGreatE47
import Derived.Test.YthhgoenomehobaaGreatE10
import Derived.Test.YthhgoenomehobaaGreatE11
import Derived.Test.YthhgoenomehobaaGreatE46
import Derived.Test.YthhgoenomehobaaGreatE07
import Derived.Test.YthhgoenomehobaaGreatE03
import Derived.Test.YthhgoenomehobaaGreatE48
import Derived.Test.YthhgoenomehobaaGreatE50
namespace Go.Proofs.YthhgoenomehobaaGreat.mm
set_option maxRecDepth 100000
set_option linter.unusedVariables false
open Go.Value renaming int → Vi, slice → Vs
open Go.IntKind renaming i64 → Qi
section
open Go.ChangeShapes Go.WideShapes Go.ChangeAt Go.RowKit Go.Joins Go.Deep Go.Maps
structure b5r (m m' : Mm) : Prop where
  fl : (∀ f,f ∈ a1h m' ↔ f ∈ a1h m)\/(∃ g,∀ f,f ∈ a1h m' ↔ f = g\/f ∈ a1h m)\/(∃ g,∀ f,f ∈ a1h m ↔ f = g\/f ∈ a1h m')
  sl : ∀ k : Int,isSl m k = true->a0s m k ≠ 0->a0t m' k = a0t m k/\(a0d m' k).unt = (a0d m k).unt/\a0s m' k<=a0s m k + 1/\a0s m k - 1<=a0s m' k
  now : m.now<=m'.now
  ns : m'.slots.length = m.slots.length
theorem b2g {m m' : Mm} (hM : OkC m) (T : Turn m m') : b5r m m':=by
  have h1:=b8s hM T
  have h2:=fun (k : Int) hk h0 => b8t T (k:=k) hk h0
  obtain ⟨b,l,d,hb,E,hd,hc⟩:=T
  exact ⟨h1,h2,by rw [E.now]; exact Int.le_refl _,E.ns⟩
theorem b8a {W : Wd} (I : WInv W) {x : Pk} (h : doE W x = 0) : b5r W.m (doW W x).m:=by
  rcases b4k h with ⟨-,-,e⟩ | ⟨-,-,-,hi,hb,e⟩ | ⟨-,-,-,-,-,-,-,-,e⟩
  · rw [e]
    refine ⟨.inl fun f => Iff.rfl,fun k _ _ => ⟨rfl,rfl,?_,?_⟩,?_,rfl⟩
    · show a0s W.m k<=a0s W.m k + 1; omega
    · show a0s W.m k - 1<=a0s W.m k; omega
    · show W.m.now<=W.m.now + 1; omega
  · rw [e]; exact b2g I.okc (any_turn I hi hb)
  · rw [e]; exact b2g I.okc (a1n I)
def cntN (A B : List Fl) (j : Nat) : Nat:=((A.take j).filter (fun x => !hasF B x)).length
theorem b5x {A B : List Fl} {j : Nat} (h : j < A.length) (hx : hasF B A[j] = true) : cntN A B (j + 1) = cntN A B j:=by
  unfold cntN
  rw [List.take_succ_eq_append_getElem h,List.filter_append]
  simp [hx]
theorem b9i {A B : List Fl} {j : Nat} (h : j < A.length) (hx : hasF B A[j] = false) : cntN A B (j + 1) = cntN A B j + 1:=by
  unfold cntN
  rw [List.take_succ_eq_append_getElem h,List.filter_append]
  simp [hx]
theorem b9h (A B : List Fl) (j : Nat) : cntN A B j<=A.length:=by
  unfold cntN
  have h1:=List.length_filter_le (fun x => !hasF B x) (A.take j)
  rw [List.length_take] at h1
  omega
theorem b0h {M : Mm} (h : OkC M) : (a1h M).Nodup:=by
  have hn : (allC M).Nodup:=a2p h.keys
  unfold a1h
  refine a2p (f:=fun x : Fl => x.slot) ?_
  rw [List.map_map]
  rw [show ((fun x : Fl => x.slot) ∘ a1q M) = id from funext fun a => rfl,List.map_id]
  exact hn
theorem b3e {A B : List Fl} (h : ∀ f,f ∈ A->f ∈ B) : cntN A B A.length = 0:=by
  unfold cntN
  rw [List.take_length,List.length_eq_zero_iff,List.filter_eq_nil_iff]
  intro x hx
  have:=(b6h B x).2 (h x hx)
  simp [this]
theorem one_of {A B : List Fl} {g : Fl} (hn : A.Nodup) (h : ∀ f,f ∈ A->f = g\/f ∈ B) : cntN A B A.length<=1:=by
  unfold cntN
  rw [List.take_length]
  have hs : ∀ x ∈ A.filter (fun x => !hasF B x),x = g:=fun x hx => by
    rw [List.mem_filter] at hx
    rcases h x hx.1 with e | e
    · exact e
    · have:=(b6h B x).2 e
      simp [this] at hx
  have hd : (A.filter (fun x => !hasF B x)).Nodup:=hn.filter _
  match hl : A.filter (fun x => !hasF B x),hd,hs with
  | [],_,_ => simp
  | [_],_,_ => simp
  | a :: b :: r,hd,hs =>
    exfalso
    have e1:=hs a (.head _)
    have e2:=hs b (.tail _ (.head _))
    rw [e1,e2] at hd
    simp at hd
theorem c1v {m m' : Mm} (h1 : OkC m) (h2 : OkC m') (R : b5r m m') : cntN (a1h m) (a1h m') (a1h m).length + cntN (a1h m') (a1h m) (a1h m').length<=1:=by
  rcases R.fl with h | ⟨g,h⟩ | ⟨g,h⟩
  · rw [b3e fun f hf => (h f).2 hf,b3e fun f hf => (h f).1 hf]; omega
  · rw [b3e fun f hf => (h f).2 (.inr hf)]
    have:=one_of (g:=g) (b0h h2) (fun f hf => (h f).1 hf)
    omega
  · rw [b3e fun f hf => (h f).2 (.inr hf)]
    have:=one_of (g:=g) (b0h h1) (fun f hf => (h f).1 hf)
    omega
theorem b1q {M : Mm} (h : OkC M) : a2k M = a1h M:=by unfold a2k a1h; rw [if_pos ((a7e _).2 h)]
theorem b0g {M : Mm} (h : OkC M) : (a1h M).length<=12:=by
  unfold a1h
  rw [List.length_map]
  have:=few' _ _ (a2p h.keys) h.a4m
  have:=h.ok.ns
  omega
theorem FRow.own {w : World} {lo c : Nat} {a : Option Addr} {l : List Fl} (h : w.ownsRow lo 61 4 (Vs a l.length c) l.length (encF l)) (hm : l.length<=12) : FRow w a c l:=by
  obtain ⟨ao,cap,e,r⟩:=FRow.a6h h (by omega)
  injection e with e1 e2 e3
  subst e1 e3
  exact r
end
section
open Go.ChangeShapes Go.WideShapes Go.ChangeAt Go.RowKit Go.Joins Go.Deep Go.Maps
set_option maxHeartbeats 2000000 in
theorem asksRt : Asks 27:=by
  intro W x w v v1 I hx0 hv hv1
  have I':=a5p I hx0
  have R:=b8a I hx0
  generalize doW W x = W' at *
  have hns:=I.okc.ok.ns
  have HI : Hid (WInv W):=I
  have HI' : Hid (WInv W'):=I'
  have HRt : Hid (b5r W.m W'.m):=R
  have hnq : W'.m.slots.length = W.m.slots.length:=R.ns
  have HNq : Hid (W'.m.slots.length = W.m.slots.length):=R.ns
  have hnow : W.m.now<=W'.m.now:=R.now
  obtain ⟨aS,aH,aF,aL,cS,cH,cF,cL,aT,cT,lt,rfl,A,-⟩:=id hv
  obtain ⟨aS1,aH1,aF1,aL1,cS1,cH1,cF1,cL1,aT1,cT1,lt1,rfl,A1,-⟩:=id hv1
  have ms:=A.s.max
  obtain ⟨ox,hox⟩ : ∃ o : Obj,o = .cells #[Vs aS W.m.slots.length cS,Vs aH W.m.heads.length cH,Vs aF W.m.free.length cF,Vs aL W.m.a0b.length cL,Vi Qi W.m.now,Vs aT W.ts.length cT] 28:=⟨_,rfl⟩
  obtain ⟨oy,hoy⟩ : ∃ o : Obj,o = .cells #[Vs aS1 W'.m.slots.length cS1,Vs aH1 W'.m.heads.length cH1,Vs aF1 W'.m.free.length cF1,Vs aL1 W'.m.a0b.length cL1,Vi Qi W'.m.now,Vs aT1 W'.ts.length cT1] 28:=⟨_,rfl⟩
  have b0 : Below w.heap.size w ((w.alloc ox).alloc oy):=below_alloc2 w ox oy
  have HX0 : Hid (((w.alloc ox).alloc oy).heap[w.heap.size]? = some ox):=by show _ = _; rw [Below.heap_alloc _ _ _ (by simp),heap_alloc_new]
  have HY0 : Hid (((w.alloc ox).alloc oy).heap[w.heap.size + 1]? = some oy):=by
    have:=heap_alloc_new (w.alloc ox) oy
    rwa [show (w.alloc ox).heap.size = w.heap.size + 1 by simp] at this
  have HV0 : Hid (WAns 0 ((w.alloc ox).alloc oy) (.agg #[Vs aS W.m.slots.length cS,Vs aH W.m.heads.length cH,Vs aF W.m.free.length cF,Vs aL W.m.a0b.length cL,Vi Qi W.m.now,Vs aT W.ts.length cT]) W):=hv.below b0
  have HU0 : Hid (WAns 0 ((w.alloc ox).alloc oy) (.agg #[Vs aS1 W'.m.slots.length cS1,Vs aH1 W'.m.heads.length cH1,Vs aF1 W'.m.free.length cF1,Vs aL1 W'.m.a0b.length cL1,Vi Qi W'.m.now,Vs aT1 W'.ts.length cT1]) W'):=hv1.below b0
  have HA0 : Hid (At ((w.alloc ox).alloc oy) aS aH aF aL cS cH cF cL W.m):=A.below b0
  have HA1 : Hid (At ((w.alloc ox).alloc oy) aS1 aH1 aF1 aL1 cS1 cH1 cF1 cL1 W'.m):=A1.below b0
  obtain ⟨LA,hLA⟩ : ∃ LA,LA = a1h W.m:=⟨_,rfl⟩
  obtain ⟨LB,hLB⟩ : ∃ LB,LB = a1h W'.m:=⟨_,rfl⟩
  have eA : a2k W.m = LA:=by rw [hLA]; exact b1q I.okc
  have eB : a2k W'.m = LB:=by rw [hLB]; exact b1q I'.okc
  have nA : LA.length<=12:=by rw [hLA]; exact b0g I.okc
  have nB : LB.length<=12:=by rw [hLB]; exact b0g I'.okc
  have hsum : cntN LA LB LA.length + cntN LB LA LB.length<=1:=by rw [hLA,hLB]; exact c1v I.okc I'.okc R
  have HEA : Hid (a2k W.m = LA):=eA
  have HEB : Hid (a2k W'.m = LB):=eB
  have HSum : Hid (cntN LA LB LA.length + cntN LB LA LB.length<=1):=hsum
  have hch : chkC W'.m = 0:=I'.chain
  have HCh : Hid (chkC W'.m = 0):=hch
  clear A A1 I I' R hx0 hv hv1 hLA hLB eA eB hsum hch hnq
  go_enter Tryz.func27,Tryz.ntmps27
  have l6 : Hid (((w.alloc (.cells #[Vs aS W.m.slots.length cS,Vs aH W.m.heads.length cH,Vs aF W.m.free.length cF,Vs aL W.m.a0b.length cL,Vi Qi W.m.now,Vs aT W.ts.length cT] 28)).alloc (.cells #[Vs aS1 W'.m.slots.length cS1,Vs aH1 W'.m.heads.length cH1,Vs aF1 W'.m.free.length cF1,Vs aL1 W'.m.a0b.length cL1,Vi Qi W'.m.now,Vs aT1 W'.ts.length cT1] 28)).rangeAt w.heap.size 0 [Vs aS W.m.slots.length cS,Vs aH W.m.heads.length cH,Vs aF W.m.free.length cF,Vs aL W.m.a0b.length cL,Vi Qi W.m.now,Vs aT W.ts.length cT]):=by subst hox hoy; exact a0q HX0.out rfl
  go_wp2_with (refine wl_6 rfl _ rfl rfl l6.out ?_)
  rw [<- hox,<- hoy]
  rw [<- hox,<- hoy] at l6
  clear l6
  generalize (w.alloc ox).alloc oy = V0 at *
  subst hox hoy
  refine (a7g HI.out HV0.out).mono ?_
  rw [HEA.out]
  rintro e w2 ⟨ao,ca,rfl,hO,hb2⟩
  have HF2 : Hid (FRow w2 ao ca LA):=FRow.own hO nA
  have HU2 : Hid (WAns 0 w2 (.agg #[Vs aS1 W'.m.slots.length cS1,Vs aH1 W'.m.heads.length cH1,Vs aF1 W'.m.free.length cF1,Vs aL1 W'.m.a0b.length cL1,Vi Qi W'.m.now,Vs aT1 W'.ts.length cT1]) W'):=HU0.out.below hb2
  have hY2:=(hb2.block _ (lt_of_block HY0.out)).trans HY0.out
  have l6 : Hid (w2.rangeAt (w.heap.size + 1) 0 [Vs aS1 W'.m.slots.length cS1,Vs aH1 W'.m.heads.length cH1,Vs aF1 W'.m.free.length cF1,Vs aL1 W'.m.a0b.length cL1,Vi Qi W'.m.now,Vs aT1 W'.ts.length cT1]):=a0q hY2 rfl
  have Hb2 : Hid (Below V0.heap.size V0 w2):=hb2
  have hcapA:=HF2.out.le
  clear hO hb2 hY2 HV0 HU0
  go_wp2_with (refine wl_6 rfl _ rfl rfl l6.out ?_)
  clear l6
  refine (a7g HI'.out HU2.out).mono ?_
  rw [HEB.out]
  rintro e w3 ⟨bo,cb,rfl,hO,hb3⟩
  have HB3 : Hid (FRow w3 bo cb LB):=FRow.own hO nB
  have HF3 : Hid (FRow w3 ao ca LA):=HF2.out.below hb3
  have Hb3 : Hid (Below V0.heap.size V0 w3):=Hb2.out.trans (hb3.mono Hb2.out.size)
  have hY3:=(Hb3.out.block _ (lt_of_block HY0.out)).trans HY0.out
  have hcapB:=HB3.out.le
  obtain ⟨y0,y1,y2,y3,y4,y5,ys⟩:=a1w hY3
  clear hO hb3 hY3 HF2 HU2 Hb2
  go_wp2_with fail
  clear y0 y1 y2 y3 y4 y5 ys
  refine (a6v W'.m aS1 aH1 aF1 aL1 cS1 cH1 cF1 cL1 w3 (HA1.out.below Hb3.out)).mono ?_
  rw [HCh.out]
  rintro e w4 ⟨rfl,hb4⟩
  have HB4 : Hid (FRow w4 bo cb LB):=HB3.out.below hb4
  have HF4 : Hid (FRow w4 ao ca LA):=HF3.out.below hb4
  have Hb4 : Hid (Below V0.heap.size V0 w4):=Hb3.out.trans (hb4.mono Hb3.out.size)
  clear hb4 HB3 HF3 Hb3
  go_wp2_with fail
  go_loopw [9,42] (fun c i wr => ∃ j : Nat,j<=LA.length/\i = Vi Qi j/\c = Vi Qi (cntN LA LB j : Nat)/\Hid (FRow wr ao ca LA)/\Hid (FRow wr bo cb LB)/\Hid (Below V0.heap.size V0 wr)) (fun _ i _ => LA.length - (intOf i).toNat)
  case atStart => exact ⟨0,Nat.zero_le _,rfl,rfl,HF4,HB4,Hb4⟩
  case round =>
    obtain ⟨j,hj,rfl,rfl,HF,HB,Hb⟩:=hrel
    clear HF4 HB4 Hb4
    by_cases hlt : j < LA.length
    · rcases HF.out.at_ with h0 | ⟨bf,of,rfl,hc⟩
      · omega
      obtain ⟨c0,c1,c2,c3⟩:=hc j hlt
      have Hyes : Hid (∀ h : hasF LB LA[j] = true,cntN LA LB (j + 1) = cntN LA LB j):=fun h => b5x hlt h
      have Hno : Hid (∀ h : hasF LB LA[j] = false,cntN LA LB (j + 1) = cntN LA LB j + 1):=fun h => b9i hlt h
      generalize LA[j] = y at c0 c1 c2 c3 Hyes Hno
      obtain ⟨oq,hoq⟩ : ∃ o : Obj,o = .cells #[Vi Qi y.a,Vi Qi y.b,Vi Qi y.slot,Vi Qi y.unt] 61:=⟨_,rfl⟩
      have HF2 : Hid (FRow (wr.alloc oq) (some ⟨bf,of,none⟩) ca LA):=HF.out.below (a0c _ _)
      have HB2 : Hid (FRow (wr.alloc oq) bo cb LB):=HB.out.below (a0c _ _)
      have Hb2 : Hid (Below V0.heap.size V0 (wr.alloc oq)):=Hb.out.alloc Hb.out.size _
      have hcn:=b9h LA LB j
      obtain ⟨cj,hcj⟩ : ∃ cj,cj = cntN LA LB j:=⟨_,rfl⟩
      rw [<- hcj] at Hyes Hno hcn ⊢
      have Hcj : Hid (cj = cntN LA LB j):=hcj
      clear hc HF HB Hb hcj
      subst hoq
      go_wp2_with fail
      generalize World.alloc wr _ = V2 at *
      refine (a7f bo cb LB y V2 (by omega) HB2.out).mono ?_
      rintro e w5 ⟨rfl,hb5⟩
      have HF5 : Hid (FRow w5 (some ⟨bf,of,none⟩) ca LA):=HF2.out.below hb5
      have HB5 : Hid (FRow w5 bo cb LB):=HB2.out.below hb5
      have Hb5 : Hid (Below V0.heap.size V0 w5):=Hb2.out.trans (hb5.mono Hb2.out.size)
      clear hb5 HF2 HB2 Hb2 c0 c1 c2 c3
      cases hh : hasF LB y
      · have hn:=Hno.out hh
        have Hn : Hid (cntN LA LB (j + 1) = cj + 1):=hn
        clear hn hh Hyes Hno
        go_wp2
        go_roundw
        case rel => exact ⟨j + 1,by omega,by go_num,by rw [Hn.out]; exact congrArg (Value.int IntKind.i64) (by omega),HF5,HB5,Hb5⟩
        case measure => simp [intOf]; omega
      · have Hn : Hid (cntN LA LB (j + 1) = cj):=Hyes.out hh
        clear hh Hyes Hno
        go_wp2
        go_roundw
        case rel => exact ⟨j + 1,by omega,by go_num,by rw [Hn.out],HF5,HB5,Hb5⟩
        case measure => simp [intOf]; omega
    · have hjE : j = LA.length:=by omega
      subst hjE
      obtain ⟨gn,hgn⟩ : ∃ gn,gn = cntN LA LB LA.length:=⟨_,rfl⟩
      have Hgn : Hid (gn = cntN LA LB LA.length):=hgn
      rw [<- hgn]
      clear hgn
      go_wp2
      go_loopw [10,55] (fun c i wr => ∃ j : Nat,j<=LB.length/\i = Vi Qi j/\c = Vi Qi (cntN LB LA j : Nat)/\Hid (FRow wr ao ca LA)/\Hid (FRow wr bo cb LB)/\Hid (Below V0.heap.size V0 wr)) (fun _ i _ => LB.length - (intOf i).toNat)
      case atStart => exact ⟨0,Nat.zero_le _,rfl,rfl,HF,HB,Hb⟩
      case round =>
        clear HF HB Hb
        obtain ⟨j,hj,rfl,rfl,HF,HB,Hb⟩:=hrel
        by_cases hlt : j < LB.length
        · rcases HB.out.at_ with h0 | ⟨bf,of,rfl,hc⟩
          · omega
          obtain ⟨c0,c1,c2,c3⟩:=hc j hlt
          have Hyes : Hid (∀ h : hasF LA LB[j] = true,cntN LB LA (j + 1) = cntN LB LA j):=fun h => b5x hlt h
          have Hno : Hid (∀ h : hasF LA LB[j] = false,cntN LB LA (j + 1) = cntN LB LA j + 1):=fun h => b9i hlt h
          generalize LB[j] = y at c0 c1 c2 c3 Hyes Hno
          obtain ⟨oq,hoq⟩ : ∃ o : Obj,o = .cells #[Vi Qi y.a,Vi Qi y.b,Vi Qi y.slot,Vi Qi y.unt] 61:=⟨_,rfl⟩
          have HF2 : Hid (FRow (wr.alloc oq) ao ca LA):=HF.out.below (a0c _ _)
          have HB2 : Hid (FRow (wr.alloc oq) (some ⟨bf,of,none⟩) cb LB):=HB.out.below (a0c _ _)
          have Hb2 : Hid (Below V0.heap.size V0 (wr.alloc oq)):=Hb.out.alloc Hb.out.size _
          have hcn:=b9h LB LA j
          obtain ⟨cj,hcj⟩ : ∃ cj,cj = cntN LB LA j:=⟨_,rfl⟩
          rw [<- hcj] at Hyes Hno hcn ⊢
          clear hc HF HB Hb hcj
          subst hoq
          go_wp2_with fail
          generalize World.alloc wr _ = V2 at *
          refine (a7f ao ca LA y V2 (by omega) HF2.out).mono ?_
          rintro e w5 ⟨rfl,hb5⟩
          have HF5 : Hid (FRow w5 ao ca LA):=HF2.out.below hb5
          have HB5 : Hid (FRow w5 (some ⟨bf,of,none⟩) cb LB):=HB2.out.below hb5
          have Hb5 : Hid (Below V0.heap.size V0 w5):=Hb2.out.trans (hb5.mono Hb2.out.size)
          clear hb5 HF2 HB2 Hb2 c0 c1 c2 c3
          cases hh : hasF LA y
          · have Hn : Hid (cntN LB LA (j + 1) = cj + 1):=Hno.out hh
            clear hh Hyes Hno
            go_wp2
            go_roundw
            case rel => exact ⟨j + 1,by omega,by go_num,by rw [Hn.out]; exact congrArg (Value.int IntKind.i64) (by omega),HF5,HB5,Hb5⟩
            case measure => simp [intOf]; omega
          · have Hn : Hid (cntN LB LA (j + 1) = cj):=Hyes.out hh
            clear hh Hyes Hno
            go_wp2
            go_roundw
            case rel => exact ⟨j + 1,by omega,by go_num,by rw [Hn.out],HF5,HB5,Hb5⟩
            case measure => simp [intOf]; omega
        · have hjE : j = LB.length:=by omega
          subst hjE
          obtain ⟨cm,hcm⟩ : ∃ cm,cm = cntN LB LA LB.length:=⟨_,rfl⟩
          rw [<- hcm]
          have hsum : gn + cm<=1:=by rw [Hgn.out,hcm]; exact HSum.out
          clear hcm HF HB
          have hle : (gn : Int) + (cm : Int)<=1:=by exact_mod_cast hsum
          have hg0 : (0 : Int)<=(gn : Int) + (cm : Int):=by exact_mod_cast Nat.zero_le (gn + cm)
          have hgt : ¬ ((gn : Int) + (cm : Int) > 1):=Int.not_lt.2 hle
          have hw1 : IntKind.i64.wrap ((gn : Int) + (cm : Int)) = (gn : Int) + (cm : Int):=by rw [IntKind.wrap_i64]; clear hsum; generalize (gn : Int) + (cm : Int) = z at *; omega
          have hw2 : wrap64 ((gn : Int) + (cm : Int)) = (gn : Int) + (cm : Int):=by unfold wrap64; clear hsum; generalize (gn : Int) + (cm : Int) = z at *; omega
          have hX:=(Hb.out.block _ (lt_of_block HX0.out)).trans HX0.out
          obtain ⟨x0,x1,x2,x3,x4,x5,xs⟩:=a1w hX
          clear hX
          go_wp2
          go_loopw [74] (fun i wr => ∃ k : Nat,k<=W.m.slots.length/\i = Vi Qi k/\Hid (Below V0.heap.size V0 wr)) (fun i _ => W.m.slots.length - (intOf i).toNat)
          case atStart => exact ⟨0,Nat.zero_le _,rfl,Hb⟩
          case round =>
            clear Hb x0 x1 x2 x3 x4 x5 xs
            obtain ⟨k,hk,rfl,Hb⟩:=hrel
            have hX:=(Hb.out.block _ (lt_of_block HX0.out)).trans HX0.out
            have hY:=(Hb.out.block _ (lt_of_block HY0.out)).trans HY0.out
            obtain ⟨x0,x1,x2,x3,x4,x5,xs⟩:=a1w hX
            obtain ⟨y0,y1,y2,y3,y4,y5,ys⟩:=a1w hY
            by_cases hlk : k < W.m.slots.length
            · have hl1 : k < W'.m.slots.length:=by have:=HNq.out; omega
              rcases (HA0.out.below Hb.out).s.at_ with h0 | ⟨bs,os,rfl,hc⟩
              · omega
              rcases (HA1.out.below Hb.out).s.at_ with h0 | ⟨bs1,os1,rfl,hc1⟩
              · omega
              obtain ⟨e0,e1,e2,e3,e4,e5⟩:=hc k hlk
              obtain ⟨f0,f1,f2,f3,f4,f5⟩:=hc1 k hl1
              have HSl : Hid (W.m.slots[k].refs ≠ 0->W'.m.slots[k].a = W.m.slots[k].a/\W'.m.slots[k].b = W.m.slots[k].b/\W'.m.slots[k].unt = W.m.slots[k].unt/\W'.m.slots[k].refs<=W.m.slots[k].refs + 1/\W.m.slots[k].refs - 1<=W'.m.slots[k].refs):=fun h0 => by
                have h:=HRt.out.sl k (a1a.2 ⟨by omega,by omega⟩) (by unfold a0s; simpa [hlk] using h0)
                have e1 : W.m.slots.getD ((k : Int)).toNat sl0 = W.m.slots[k]:=by simp [hlk]
                have e2 : W'.m.slots.getD ((k : Int)).toNat sl0 = W'.m.slots[k]:=by simp [hl1]
                have e3 : a0d W.m (k : Int) = W.m.slots[k]:=by unfold a0d; simp [hlk]
                have e4 : a0d W'.m (k : Int) = W'.m.slots[k]:=by unfold a0d; simp [hl1]
                unfold a0t a0s at h
                rw [e1,e2,e3,e4] at h
                simp only [Prod.mk.injEq] at h
                exact ⟨h.1.1,h.1.2,h.2.1,h.2.2.1,h.2.2.2⟩
              have hz : ∀ (o o2 : Obj),Below V0.heap.size V0 ((wr.alloc o).alloc o2):=fun o o2 => (Hb.out.alloc Hb.out.size o).alloc (by have:=Hb.out.size; simp; omega) o2
              have Hz : Hid (∀ (o o2 : Obj),Below V0.heap.size V0 ((wr.alloc o).alloc o2)):=hz
              have hrb : W.m.slots[k].refs ≠ 0->W.m.slots[k].refs<=1000/\W'.m.slots[k].refs<=1001:=fun h0 => by
                have h1:=(HSl.out h0).2.2.2.1
                have h2:=(fT_le HI.out W.ts.length k).2
                rw [<- fT_all HI.out hlk] at h2
                omega
              generalize W.m.slots[k] = s at *
              generalize W'.m.slots[k] = t at *
              clear hc hc1 hX hY hz
              have ke:=fun V => a8w t.a t.b s.a s.b V
              by_cases hs0 : s.refs > 0
              · obtain ⟨h1,h2,h3,h4,h5⟩:=HSl.out (by omega)
                rw [h1,h2] at ke
                rw [h1] at f1
                rw [h2] at f2
                rw [h3] at f3
                have ke' : ∀ V,(Op.equalIn 10000 30 (.agg #[Vi Qi s.a,Vi Qi s.b]) (.agg #[Vi Qi s.a,Vi Qi s.b])).run Tryz.prog V = .ok true V:=fun V => by rw [ke V]; simp
                clear ke
                have g0:=fun o : Obj => ((a1z (a0c wr o)).1 _ _ (a0m f0)).trans f0
                have g1:=fun o : Obj => ((a1z (a0c wr o)).1 _ _ (a0m f1)).trans f1
                have g2:=fun o : Obj => ((a1z (a0c wr o)).1 _ _ (a0m f2)).trans f2
                have g3:=fun o : Obj => ((a1z (a0c wr o)).1 _ _ (a0m f3)).trans f3
                have g4:=fun o : Obj => ((a1z (a0c wr o)).1 _ _ (a0m f4)).trans f4
                have g5:=fun o : Obj => ((a1z (a0c wr o)).1 _ _ (a0m f5)).trans f5
                clear f0 f1 f2 f3 f4 f5
                by_cases ht0 : t.refs > 0
                · have hq1 : ¬ (t.refs > s.refs + 1):=by omega
                  have hq2 : ¬ (t.refs < s.refs - 1):=by omega
                  have hq3 : s.refs<=1000/\t.refs<=1001:=hrb (by omega)
                  have hw3 : IntKind.i64.wrap (s.refs + 1) = s.refs + 1:=by rw [IntKind.wrap_i64]; omega
                  have hw4 : wrap64 (s.refs + 1) = s.refs + 1:=by unfold wrap64; omega
                  have hw5 : IntKind.i64.wrap (s.refs - 1) = s.refs - 1:=by rw [IntKind.wrap_i64]; omega
                  have hw6 : wrap64 (s.refs - 1) = s.refs - 1:=by unfold wrap64; omega
                  clear h4 h5 hrb
                  go_wp2
                  go_roundw
                  case rel => exact ⟨k + 1,by omega,by go_num,Hz.out _ _⟩
                  case measure => simp [intOf]; omega
                · clear hrb
                  go_wp2
                  go_roundw
                  case rel => exact ⟨k + 1,by omega,by go_num,Hz.out _ _⟩
                  case measure => simp [intOf]; omega
              · clear ke hrb
                have g0:=fun o : Obj => ((a1z (a0c wr o)).1 _ _ (a0m f0)).trans f0
                have g1:=fun o : Obj => ((a1z (a0c wr o)).1 _ _ (a0m f1)).trans f1
                have g2:=fun o : Obj => ((a1z (a0c wr o)).1 _ _ (a0m f2)).trans f2
                have g3:=fun o : Obj => ((a1z (a0c wr o)).1 _ _ (a0m f3)).trans f3
                have g4:=fun o : Obj => ((a1z (a0c wr o)).1 _ _ (a0m f4)).trans f4
                have g5:=fun o : Obj => ((a1z (a0c wr o)).1 _ _ (a0m f5)).trans f5
                clear f0 f1 f2 f3 f4 f5
                go_wp2
                go_roundw
                case rel => exact ⟨k + 1,by omega,by go_num,Hz.out _ _⟩
                case measure => simp [intOf]; omega
            · go_wp2
              go_ret
              refine ⟨?_,b0.trans (Hb.out.mono (by have:=b0.size; omega))⟩
              simp
end
section
open Go.ChangeShapes Go.WideShapes Go.ChangeAt Go.RowKit Go.Joins Go.Deep
theorem worldRight_any (many buckets tasks : Int) (l : List Pk) (aP : Option Addr) (cP : Nat) (w : World) (r : PRow w aP cP l) :
    Calls Tryz.prog 5 #[Vi Qi many,Vi Qi buckets,Vi Qi tasks,Vs aP l.length cP] w fun e w' => e = .returned (.bool true)/\Below w.heap.size w w':=b3a a8q asksRt many buckets tasks l aP cP w r
end
end Go.Proofs.YthhgoenomehobaaGreat.mm
