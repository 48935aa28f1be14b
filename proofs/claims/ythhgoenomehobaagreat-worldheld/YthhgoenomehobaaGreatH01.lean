/- Parts of the proof, one behind the other: HdX, LaX, PlHX. -/
import Derived.Test.YthhgoenomehobaaGreatC47
import Derived.Test.YthhgoenomehobaaGreatC45
import Derived.Test.YthhgoenomehobaaGreatC49
namespace Go.Proofs.YthhgoenomehobaaGreat.mm
set_option maxRecDepth 100000
set_option linter.unusedVariables false
open Go.Value renaming int → Vi, slice → Vs
open Go.IntKind renaming i64 → Qi
section
open Go.ChangeShapes Go.WideShapes Go.ChangeAt Go.RowKit Go.Joins Go.Deep Go.Maps
theorem inHand_no {t : Tk} (h : t.busy = false\/t.f.slot < 0\/(t.f.c.kind = 2/\t.f.pl = 7)) : ∀ k,hand t k = 0:=by
  intro k
  unfold hand a1r
  rcases h with h | h | ⟨h1,h2⟩
  · simp [h]
  · have : ¬ (0<=t.f.slot):=by omega
    simp [this]
  · simp [h1,h2]
theorem inHand_yes {t : Tk} (h0 : 0<=t.f.slot) (h : ¬ (t.f.c.kind = 2/\t.f.pl = 7)) : a1r t.f = true:=by
  unfold a1r
  have h1 : (t.f.c.kind == 2 && t.f.pl == 7) = false:=by
    cases h2 : (t.f.c.kind == 2 && t.f.pl == 7) with
    | false => rfl
    | true => exfalso; simp at h2; exact h h2
  rw [h1]
  simp [h0]
theorem fH_le {c : Nat->Int} (h : ∀ k,0<=c k/\c k<=600) {t : Tk} (hh : t.held.length<=100) (j k : Nat) : 0<=fH c t j k/\fH c t j k<=700:=by
  have h1:=h k
  have h2:=count_le (t.held.take j) k
  have h3 : (t.held.take j).length<=t.held.length:=by rw [List.length_take]; omega
  unfold fH
  omega
set_option maxHeartbeats 2000000 in
theorem asksHd : Asks 31:=by
  intro W0 x w v v1 I0 hx0 hv hv1
  have I:=pick_inv I0 hx0
  generalize doW W0 x = W at *
  have hnt:=I.nt
  have hns:=I.okc.ok.ns
  obtain ⟨aS0,aH0,aF0,aL0,cS0,cH0,cF0,cL0,aT0,cT0,lt0,rfl,-⟩:=hv
  obtain ⟨aS,aH,aF,aL,cS,cH,cF,cL,aT,cT,lt,rfl,A,-,hts,hT,-⟩:=id hv1
  have HI : Hid (WInv W):=I
  have HTs : Hid (W.ts = lt.map (·.1)):=hts
  have hlen : lt.length = W.ts.length:=by rw [hts,List.length_map]
  have HLen : Hid (lt.length = W.ts.length):=hlen
  obtain ⟨ox,hox⟩ : ∃ o : Obj,o = .cells #[Vs aS0 W0.m.slots.length cS0,Vs aH0 W0.m.heads.length cH0,Vs aF0 W0.m.free.length cF0,Vs aL0 W0.m.locks.length cL0,Vi Qi W0.m.now,Vs aT0 W0.ts.length cT0] 28:=⟨_,rfl⟩
  obtain ⟨oy,hoy⟩ : ∃ o : Obj,o = .cells #[Vs aS W.m.slots.length cS,Vs aH W.m.heads.length cH,Vs aF W.m.free.length cF,Vs aL W.m.locks.length cL,Vi Qi W.m.now,Vs aT W.ts.length cT] 28:=⟨_,rfl⟩
  have b0 : Below w.heap.size w ((w.alloc ox).alloc oy):=below_alloc2 w ox oy
  have HY0 : Hid (((w.alloc ox).alloc oy).heap[w.heap.size + 1]? = some oy):=by
    have:=heap_alloc_new (w.alloc ox) oy
    rwa [show (w.alloc ox).heap.size = w.heap.size + 1 by simp] at this
  have HV0 : Hid (WAns 0 ((w.alloc ox).alloc oy) (.agg #[Vs aS W.m.slots.length cS,Vs aH W.m.heads.length cH,Vs aF W.m.free.length cF,Vs aL W.m.locks.length cL,Vi Qi W.m.now,Vs aT W.ts.length cT]) W):=hv1.below b0
  have HT0 : Hid (TRow ((w.alloc ox).alloc oy) aT cT lt):=hT.below b0
  have HA0 : Hid (At ((w.alloc ox).alloc oy) aS aH aF aL cS cH cF cL W.m):=A.below b0
  have z0 : ((w.alloc ox).alloc oy).heap.size = w.heap.size + 2:=by simp
  obtain ⟨G,hG⟩ : ∃ G : Array Value,G = (encI (tab W.m.slots.length (fun _ => 0))).toArray:=⟨_,rfl⟩
  obtain ⟨i0,hi0,hz0,hz1,hz2⟩:=info_parts iI
  have hmk : ∀ V : World,(Instr.makeSlice 23 (Vi Qi (W.m.slots.length : Int)) (Vi Qi (W.m.slots.length : Int))).run Tryz.prog V = .ok (Vs (some ⟨V.heap.size,0,none⟩) W.m.slots.length W.m.slots.length) (V.alloc (.cells G 3)):=fun V => by
    have h:=run_make (P:=Tryz.prog) V 23 3 i0 _ Tryz.underlying23 hi0 hz0 .i64 .i64 (W.m.slots.length : Int) (W.m.slots.length : Int) (by omega) (Int.le_refl _) (by rw [hz2]; omega) (by omega)
    simp only [Int.toNat_natCast,hz1] at h
    rw [hG,tab_zero,<- made_ints]; exact h
  have HG : Hid (G = (encI (tab W.m.slots.length (fun _ => 0))).toArray):=hG
  have ms:=A.s.max
  clear A hT hts hlen I I0 hx0 hv1 hG hi0 hz0 hz1 hz2
  have l6 : Hid (((((w.alloc (.cells #[Vs aS0 W0.m.slots.length cS0,Vs aH0 W0.m.heads.length cH0,Vs aF0 W0.m.free.length cF0,Vs aL0 W0.m.locks.length cL0,Vi Qi W0.m.now,Vs aT0 W0.ts.length cT0] 28)).alloc (.cells #[Vs aS W.m.slots.length cS,Vs aH W.m.heads.length cH,Vs aF W.m.free.length cF,Vs aL W.m.locks.length cL,Vi Qi W.m.now,Vs aT W.ts.length cT] 28)).alloc (.cells G 3))).rangeAt (w.heap.size + 1) 0 [Vs aS W.m.slots.length cS,Vs aH W.m.heads.length cH,Vs aF W.m.free.length cF,Vs aL W.m.locks.length cL,Vi Qi W.m.now,Vs aT W.ts.length cT]):=by
    subst hox hoy
    exact a0o (((a0c _ _).block _ (lt_of_block HY0.out)).trans HY0.out) rfl
  have y0' : ((w.alloc (.cells #[Vs aS0 W0.m.slots.length cS0,Vs aH0 W0.m.heads.length cH0,Vs aF0 W0.m.free.length cF0,Vs aL0 W0.m.locks.length cL0,Vi Qi W0.m.now,Vs aT0 W0.ts.length cT0] 28)).alloc (.cells #[Vs aS W.m.slots.length cS,Vs aH W.m.heads.length cH,Vs aF W.m.free.length cF,Vs aL W.m.locks.length cL,Vi Qi W.m.now,Vs aT W.ts.length cT] 28)).cell? ⟨w.heap.size + 1,0,none⟩ = some (Vs aS W.m.slots.length cS):=by
    subst hox hoy
    exact (a2b HY0.out).1
  go_enter Tryz.func31,Tryz.ntmps31
  go_wp2_with (refine wl_6 rfl _ rfl rfl l6.out ?_)
  rw [<- hox,<- hoy]
  rw [<- hox,<- hoy] at l6 y0'
  clear l6 y0' hmk
  generalize (w.alloc ox).alloc oy = V0 at *
  subst hox hoy
  rw [show w.heap.size + 1 + 1 = V0.heap.size by omega]
  have HZ0 : Hid (V0.heap.size = w.heap.size + 2):=z0
  clear z0
  have b1 : Below V0.heap.size V0 (V0.alloc (.cells G 3)):=a0c _ _
  have HN1 : Hid (NRow (V0.alloc (.cells G 3)) V0.heap.size W.m.slots.length (fF W.m 0)):=by
    have h : NRow (V0.alloc (.cells G 3)) V0.heap.size W.m.slots.length (fun _ => 0):=by unfold NRow; rw [<- HG.out]; exact heap_alloc_new _ _
    have e : fF W.m 0 = fun _ => 0:=by funext k; simp [fF]
    rw [e]; exact h
  have HV1 : Hid (WAns 0 (V0.alloc (.cells G 3)) (.agg #[Vs aS W.m.slots.length cS,Vs aH W.m.heads.length cH,Vs aF W.m.free.length cF,Vs aL W.m.locks.length cL,Vi Qi W.m.now,Vs aT W.ts.length cT]) W):=HV0.out.below b1
  have HZ1 : Hid ((V0.alloc (.cells G 3)).heap.size = V0.heap.size + 1):=by show _ = _; simp
  have Hb1 : Hid (Below V0.heap.size V0 (V0.alloc (.cells G 3))):=b1
  clear b1
  generalize V0.alloc (.cells G 3) = V1 at *
  refine (flows_inv HI.out HV1.out).mono ?_
  rintro e w2 ⟨ao,cap,rfl,hO,hb2⟩
  obtain ⟨L,hL⟩ : ∃ L,L = allC W.m:=⟨_,rfl⟩
  have hfl : a2s W.m = L.map (a2a W.m):=by rw [hL]; exact flows_of HI.out.okc
  have hLl : L.length<=W.m.slots.length:=by rw [hL]; exact allC_few HI.out.okc
  have hln : (a2s W.m).length = L.length:=by rw [hfl,List.length_map]
  have HL : Hid (L = allC W.m):=hL
  have HFl : Hid (a2s W.m = L.map (a2a W.m)):=hfl
  rw [hln] at hO ⊢
  have HF : Hid (w2.ownsRow V1.heap.size 61 4 (Vs ao L.length cap) L.length (encF (a2s W.m))):=hO
  have HN2 : Hid (NRow w2 V0.heap.size W.m.slots.length (fF W.m 0)):=HN1.out.below hb2
  have Hb2 : Hid (Below V0.heap.size V0 w2):=Hb1.out.trans (hb2.mono Hb1.out.size)
  have hz2:=hb2.size
  have HSl : Hid (∀ a ∈ L,0<=a/\a < W.m.slots.length):=by have h:=HI.out.okc.allSlots; rw [<- hL] at h; exact h
  clear hL hfl hln hO hb2 HV1 HN1 Hb1 HG
  have hcap : L.length<=cap:=by
    obtain ⟨-,h⟩:=HF.out
    rcases h with ⟨-,h⟩ | ⟨g,c',cur,hv,-,-,hn,-⟩
    · omega
    · injection hv with _ _ e; omega
  go_wp2_with fail
  go_loopw [30] (fun i wr => ∃ j : Nat,j<=L.length/\i = Vi Qi j/\Hid (NRow wr V0.heap.size W.m.slots.length (fF W.m j))/\Hid (Below V0.heap.size V0 wr)/\Hid (w2.heap.size<=wr.heap.size/\∀ k,k < w2.heap.size->k ≠ V0.heap.size->wr.heap[k]? = w2.heap[k]?)) (fun i _ => L.length - (intOf i).toNat)
  case atStart => exact ⟨0,Nat.zero_le _,rfl,HN2,Hb2,Nat.le_refl _,fun _ _ _ => rfl⟩
  case round =>
    obtain ⟨j,hj,rfl,HN,Hb,Hk⟩:=hrel
    clear HN2 Hb2
    by_cases hlt : j < L.length
    · obtain ⟨gf,rfl,-,hgf,hgl,hcf⟩:=own_cells HF.out (by omega)
      obtain ⟨a,ha⟩ : ∃ a : Nat,L[j] = a:=⟨L[j].toNat,by have:=(HSl.out L[j] (List.getElem_mem _)).1; omega⟩
      have ha2 : a < W.m.slots.length:=by have:=(HSl.out L[j] (List.getElem_mem _)).2; omega
      have hgz:=HZ1.out
      obtain ⟨fl,hfl⟩ : ∃ fl : Fl,fl = a2a W.m L[j]:=⟨_,rfl⟩
      have hsl : fl.slot = (a : Int):=by rw [hfl]; exact ha
      have hc : ∀ q,q < 4->wr.cell? ⟨gf,j * 4 + q,none⟩ = fl.enc[q]?:=fun q hq => by
        rw [show wr.cell? ⟨gf,j * 4 + q,none⟩ = w2.cell? ⟨gf,j * 4 + q,none⟩ from World.cell?_of_block (Hk.out.2 gf hgl (by omega)),hcf (j * 4 + q) (by omega),HFl.out,encF_get _ j q (by simpa using hlt) hq,hfl]
        simp
      have c0 : wr.cell? ⟨gf,j * 4,none⟩ = some (Vi Qi fl.a):=hc 0 (by omega)
      have c1 : wr.cell? ⟨gf,j * 4 + 1,none⟩ = some (Vi Qi fl.b):=hc 1 (by omega)
      have c2 : wr.cell? ⟨gf,j * 4 + 2,none⟩ = some (Vi Qi (a : Int)):=by rw [<- hsl]; exact hc 2 (by omega)
      have c3 : wr.cell? ⟨gf,j * 4 + 3,none⟩ = some (Vi Qi fl.unt):=hc 3 (by omega)
      obtain ⟨fv,hfv⟩ : ∃ fv,fv = fF W.m j a:=⟨_,rfl⟩
      have hfb : 0<=fv/\fv<=12:=by
        have:=fF_le (M:=W.m) j a
        rw [<- HL.out] at this
        rw [hfv]; omega
      have hw1 : IntKind.i64.wrap (fv + 1) = fv + 1:=by rw [IntKind.wrap_i64]; omega
      have hw2 : wrap64 (fv + 1) = fv + 1:=by unfold wrap64; omega
      have hn : ∀ o : Obj,(wr.alloc o).cell? ⟨V0.heap.size,a,none⟩ = some (Vi Qi fv):=fun o => by rw [hfv]; exact ((HN.out.below (a0c _ o)).cell ha2).1
      have hnf : ∀ o : Obj,(wr.alloc o).frozen? ⟨V0.heap.size,a,none⟩ = false:=fun o => ((HN.out.below (a0c _ o)).cell ha2).2
      have HNx : Hid (∀ o : Obj,NRow ((wr.alloc o).setCell ⟨V0.heap.size,a,none⟩ (Vi Qi (fv + 1))) V0.heap.size W.m.slots.length (fF W.m (j + 1))):=fun o => by
        have h:=(HN.out.below (a0c _ o)).set ha2
        rw [<- hfv,fF_next (by rw [<- HL.out,List.getElem?_eq_getElem hlt,ha])] at h
        exact h
      have HBx : Hid (∀ o : Obj,Below V0.heap.size V0 ((wr.alloc o).setCell ⟨V0.heap.size,a,none⟩ (Vi Qi (fv + 1)))):=fun o => (Hb.out.alloc Hb.out.size o).setCell (Nat.le_refl _) _
      have HKx : Hid (∀ o : Obj,w2.heap.size<=((wr.alloc o).setCell ⟨V0.heap.size,a,none⟩ (Vi Qi (fv + 1))).heap.size/\∀ k,k < w2.heap.size->k ≠ V0.heap.size->((wr.alloc o).setCell ⟨V0.heap.size,a,none⟩ (Vi Qi (fv + 1))).heap[k]? = w2.heap[k]?):=fun o => ⟨by have:=Hk.out.1; simp; omega,fun k h1 h2 => (Below.heap_setCell _ _ _ _ (by dsimp only; exact h2)).trans ((Below.heap_alloc _ _ _ (by have:=Hk.out.1; omega)).trans (Hk.out.2 k h1 h2))⟩
      clear hc hcf hfl hsl ha hgz hfv HF HN Hb Hk hgf hgl
      go_wp2
      go_roundw
      case rel => exact ⟨j + 1,by omega,by go_num,HNx.out _,HBx.out _,HKx.out _⟩
      case measure => simp [intOf]; omega
    · have hjE : j = L.length:=by omega
      have HN3 : Hid (NRow wr V0.heap.size W.m.slots.length (fT W 0)):=by rw [<- fT_zero HI.out,<- HL.out,<- hjE]; exact HN
      have hYr:=(Hb.out.block _ (lt_of_block HY0.out)).trans HY0.out
      obtain ⟨y0,y1,y2,y3,y4,y5,ys⟩:=a2b hYr
      clear HN Hk HF hYr HFl HSl
      go_wp2
      go_loopw [45] (fun i wr => ∃ j : Nat,j<=W.ts.length/\i = Vi Qi j/\Hid (NRow wr V0.heap.size W.m.slots.length (fT W j))/\Hid (Below V0.heap.size V0 wr)) (fun i _ => W.ts.length - (intOf i).toNat)
      case atStart => exact ⟨0,Nat.zero_le _,rfl,HN3,Hb⟩
      case round =>
        obtain ⟨j,hj,rfl,HN,Hb⟩:=hrel
        clear HN3 y0 y1 y2 y3 y4 y5 ys hlt hjE
        by_cases hlt : j < W.ts.length
        · have hlj : j < lt.length:=by have:=HLen.out; omega
          obtain ⟨bt,ot,rfl⟩:=(HT0.out.below Hb.out).addr (by omega)
          have hmt:=HT0.out.max
          have hrg:=(HT0.out.below Hb.out).range hlj
          have hIR0:=HT0.out.held lt[j] (List.getElem_mem _)
          obtain ⟨t,ht⟩ : ∃ t,t = lt[j].1:=⟨_,rfl⟩
          have HtW : Hid (W.ts[j]? = some t):=by show _ = _; rw [HTs.out,ht]; simp [hlj]
          have HtM : Hid (t ∈ W.ts):=List.mem_of_getElem? HtW.out
          rw [<- ht] at hrg hIR0
          generalize lt[j].2 = tv at *
          obtain ⟨aK,cK,aHh,cHh⟩:=tv
          have HRg : Hid (wr.rangeAt bt (ot + j * 16) (t.enc ⟨aK,cK,aHh,cHh⟩)):=hrg
          have HIR : Hid (IRow V0 aHh cHh t.held):=hIR0
          have hhm:=hIR0.max
          obtain ⟨hh1,hh2⟩:=HI.out.held t HtM.out
          have HHs : Hid (∀ a ∈ t.held,isSl W.m a = true):=hh2
          clear hrg hIR0 ht hh2
          obtain ⟨oT,hoT⟩ : ∃ o : Obj,o = .cells #[.bool t.busy,Vi Qi t.f.c.kind,Vi Qi t.f.c.a,Vi Qi t.f.c.b,Vi Qi t.f.c.time,Vi Qi t.f.c.bk,Vi Qi t.f.c.slot,Vi Qi t.f.pl,Vi Qi t.f.cur,Vi Qi t.f.prev,Vi Qi t.f.slot,Vi Qi t.f.n,Vs aK t.f.keys.length cK,.bool t.f.done,Vi Qi t.f.e,Vs aHh t.held.length cHh] 49:=⟨_,rfl⟩
          have HBx : Hid ((wr.alloc oT).heap[wr.heap.size]? = some oT):=heap_alloc_new _ _
          have HNa : Hid (NRow (wr.alloc oT) V0.heap.size W.m.slots.length (fH (fT W j) t 0)):=by
            have e : fH (fT W j) t 0 = fT W j:=by funext k; simp [fH]
            rw [e]; exact HN.out.below (a0c _ _)
          have Hba : Hid (Below V0.heap.size V0 (wr.alloc oT)):=Hb.out.alloc Hb.out.size oT
          have hgB : V0.heap.size ≠ wr.heap.size:=by have:=lt_of_block HN.out; omega
          subst hoT
          obtain ⟨t0,t1,t2,t3,t4,t5,t6,t7,t8,t9,t10,t11,t12,t13,t14,t15,ts⟩:=taskf HBx.out
          clear HN Hb
          go_wp2_with (refine wl_T rfl _ rfl rfl HRg.out ?_)
          clear t0 t1 t2 t3 t4 t5 t6 t7 t8 t9 t10 t11 t12 t13 t14 t15 ts
          generalize wr.heap.size = BX at *
          go_loopw [52] (fun i wr2 => ∃ q : Nat,q<=t.held.length/\i = Vi Qi q/\Hid (NRow wr2 V0.heap.size W.m.slots.length (fH (fT W j) t q))/\Hid (Below V0.heap.size V0 wr2)/\Hid (wr2.heap[BX]? = some (.cells #[.bool t.busy,Vi Qi t.f.c.kind,Vi Qi t.f.c.a,Vi Qi t.f.c.b,Vi Qi t.f.c.time,Vi Qi t.f.c.bk,Vi Qi t.f.c.slot,Vi Qi t.f.pl,Vi Qi t.f.cur,Vi Qi t.f.prev,Vi Qi t.f.slot,Vi Qi t.f.n,Vs aK t.f.keys.length cK,.bool t.f.done,Vi Qi t.f.e,Vs aHh t.held.length cHh] 49 (0,0)))) (fun i _ => t.held.length - (intOf i).toNat)
          case atStart => exact ⟨0,Nat.zero_le _,rfl,HNa,Hba,HBx⟩
          case round =>
            obtain ⟨q,hq,rfl,HN,Hb,HBy⟩:=hrel
            clear HNa Hba HBx HRg
            by_cases hlq : q < t.held.length
            · rcases (HIR.out.below Hb.out).at_ with h0 | ⟨bh,oh,rfl,hc⟩
              · omega
              obtain ⟨a,ha⟩ : ∃ a : Nat,t.held[q] = a:=⟨t.held[q].toNat,by have:=(a1d.1 (HHs.out t.held[q] (List.getElem_mem _))).1; omega⟩
              have ha2 : a < W.m.slots.length:=by have:=(a1d.1 (HHs.out t.held[q] (List.getElem_mem _))).2; omega
              have d0:=hc q hlq
              rw [ha] at d0
              obtain ⟨fv,hfv⟩ : ∃ fv,fv = fH (fT W j) t q a:=⟨_,rfl⟩
              have hfb : 0<=fv/\fv<=700:=by rw [hfv]; exact fH_le (fT_le HI.out j) hh1 q a
              have hw1 : IntKind.i64.wrap (fv + 1) = fv + 1:=by rw [IntKind.wrap_i64]; omega
              have hw2 : wrap64 (fv + 1) = fv + 1:=by unfold wrap64; omega
              have hn : wr.cell? ⟨V0.heap.size,a,none⟩ = some (Vi Qi fv):=by rw [hfv]; exact (HN.out.cell ha2).1
              have hnf : wr.frozen? ⟨V0.heap.size,a,none⟩ = false:=(HN.out.cell ha2).2
              have HNx : Hid (NRow (wr.setCell ⟨V0.heap.size,a,none⟩ (Vi Qi (fv + 1))) V0.heap.size W.m.slots.length (fH (fT W j) t (q + 1))):=by
                have h:=HN.out.set ha2
                rw [<- hfv,fH_next (by rw [List.getElem?_eq_getElem hlq,ha])] at h
                exact h
              have HBz : Hid (Below V0.heap.size V0 (wr.setCell ⟨V0.heap.size,a,none⟩ (Vi Qi (fv + 1)))):=Hb.out.setCell (Nat.le_refl _) _
              have HBw : Hid ((wr.setCell ⟨V0.heap.size,a,none⟩ (Vi Qi (fv + 1))).heap[BX]? = _):=(Below.heap_setCell _ _ _ _ (by dsimp only; omega)).trans HBy.out
              clear hc ha hfv HN Hb HBy
              go_wp2
              go_roundw
              case rel => exact ⟨q + 1,by omega,by go_num,HNx,HBz,HBw⟩
              case measure => simp [intOf]; omega
            · have hqE : q = t.held.length:=by omega
              subst hqE
              obtain ⟨t0,t1,t2,t3,t4,t5,t6,t7,t8,t9,t10,t11,t12,t13,t14,t15,ts⟩:=taskf HBy.out
              by_cases hno : t.busy = false\/t.f.slot < 0\/(t.f.c.kind = 2/\t.f.pl = 7)
              · have HNx : Hid (NRow wr V0.heap.size W.m.slots.length (fT W (j + 1))):=by rw [<- fT_skip HtW.out (inHand_no hno)]; exact HN
                clear HN
                rcases hno with hno | hno | ⟨hno1,hno2⟩
                · rw [hno] at t0
                  go_wp2
                  go_roundw
                  case rel => exact ⟨j + 1,by omega,by go_num,HNx,Hb⟩
                  case measure => simp [intOf]; omega
                · by_cases hbz : t.busy = true
                  · rw [hbz] at t0
                    go_wp2
                    go_roundw
                    case rel => exact ⟨j + 1,by omega,by go_num,HNx,Hb⟩
                    case measure => simp [intOf]; omega
                  · rw [show t.busy = false by simpa using hbz] at t0
                    go_wp2
                    go_roundw
                    case rel => exact ⟨j + 1,by omega,by go_num,HNx,Hb⟩
                    case measure => simp [intOf]; omega
                · by_cases hbz : t.busy = true
                  · rw [hbz] at t0
                    rw [hno1] at t1
                    rw [hno2] at t7
                    by_cases hs0 : t.f.slot < 0
                    · go_wp2
                      go_roundw
                      case rel => exact ⟨j + 1,by omega,by go_num,HNx,Hb⟩
                      case measure => simp [intOf]; omega
                    · go_wp2
                      go_roundw
                      case rel => exact ⟨j + 1,by omega,by go_num,HNx,Hb⟩
                      case measure => simp [intOf]; omega
                  · rw [show t.busy = false by simpa using hbz] at t0
                    go_wp2
                    go_roundw
                    case rel => exact ⟨j + 1,by omega,by go_num,HNx,Hb⟩
                    case measure => simp [intOf]; omega
              · have hbz : t.busy = true:=by cases h : t.busy <;> simp_all
                have hs0 : ¬ (t.f.slot < 0):=fun h => hno (.inr (.inl h))
                have hk2 : ¬ (t.f.c.kind = 2/\t.f.pl = 7):=fun h => hno (.inr (.inr h))
                obtain ⟨a,ha⟩ : ∃ a : Nat,t.f.slot = a:=⟨t.f.slot.toNat,by omega⟩
                have ha2 : a < W.m.slots.length:=by have:=(HI.out.fi t HtM.out hbz).fit.slot.2; omega
                obtain ⟨fv,hfv⟩ : ∃ fv,fv = fH (fT W j) t t.held.length a:=⟨_,rfl⟩
                have hfb : 0<=fv/\fv<=700:=by rw [hfv]; exact fH_le (fT_le HI.out j) hh1 _ a
                have hw1 : IntKind.i64.wrap (fv + 1) = fv + 1:=by rw [IntKind.wrap_i64]; omega
                have hw2 : wrap64 (fv + 1) = fv + 1:=by unfold wrap64; omega
                have hn : wr.cell? ⟨V0.heap.size,a,none⟩ = some (Vi Qi fv):=by rw [hfv]; exact (HN.out.cell ha2).1
                have hnf : wr.frozen? ⟨V0.heap.size,a,none⟩ = false:=(HN.out.cell ha2).2
                have HNx : Hid (NRow (wr.setCell ⟨V0.heap.size,a,none⟩ (Vi Qi (fv + 1))) V0.heap.size W.m.slots.length (fT W (j + 1))):=by
                  have h:=HN.out.set ha2
                  have h2:=fT_hand HtW.out hbz (inHand_yes (by omega) hk2) (by omega)
                  rw [ha,Int.toNat_natCast] at h2
                  rw [<- hfv,h2] at h
                  exact h
                have HBz : Hid (Below V0.heap.size V0 (wr.setCell ⟨V0.heap.size,a,none⟩ (Vi Qi (fv + 1)))):=Hb.out.setCell (Nat.le_refl _) _
                rw [hbz] at t0
                rw [ha] at t10
                clear hfv HN Hb HBy hno hs0 hbz ha
                by_cases hk : t.f.c.kind = 2
                · have hp7 : ¬ (t.f.pl = 7):=fun h => hk2 ⟨hk,h⟩
                  have hp7' : (t.f.pl == 7) = false:=by simpa using hp7
                  rw [hk] at t1
                  clear hk2 hk hp7
                  go_wp2
                  go_roundw
                  case rel => exact ⟨j + 1,by omega,by go_num,HNx,HBz⟩
                  case measure => simp [intOf]; omega
                · have hk' : (t.f.c.kind == 2) = false:=by simpa using hk
                  clear hk2 hk
                  go_wp2
                  go_roundw
                  case rel => exact ⟨j + 1,by omega,by go_num,HNx,HBz⟩
                  case measure => simp [intOf]; omega
        · have hjE : j = W.ts.length:=by omega
          subst hjE
          have hYr:=(Hb.out.block _ (lt_of_block HY0.out)).trans HY0.out
          obtain ⟨y0,y1,y2,y3,y4,y5,ys⟩:=a2b hYr
          clear hYr
          go_wp2
          go_loopw [96] (fun i wr => ∃ k : Nat,k<=W.m.slots.length/\i = Vi Qi k/\Hid (NRow wr V0.heap.size W.m.slots.length (fT W W.ts.length))/\Hid (Below V0.heap.size V0 wr)) (fun i _ => W.m.slots.length - (intOf i).toNat)
          case atStart => exact ⟨0,Nat.zero_le _,rfl,HN,Hb⟩
          case round =>
            clear HN Hb y0 y1 y2 y3 y4 y5 ys
            obtain ⟨k,hk,rfl,HN,Hb⟩:=hrel
            by_cases hlk : k < W.m.slots.length
            · rcases (HA0.out.below Hb.out).s.at_ with h0 | ⟨bs,os,rfl,hc⟩
              · omega
              obtain ⟨e0,e1,e2,e3,e4,e5⟩:=hc k hlk
              have he:=fT_all HI.out hlk
              rw [he] at e0
              have hn : ∀ o : Obj,(wr.alloc o).cell? ⟨V0.heap.size,k,none⟩ = some (Vi Qi (fT W W.ts.length k)):=fun o => ((HN.out.below (a0c _ o)).cell hlk).1
              generalize fT W W.ts.length k = rf at e0 hn
              have hne : (rf != rf) = false:=by simp
              have HNx : Hid (∀ (o : Obj) (n : Nat),NRow ((wr.alloc o).drewN n) V0.heap.size W.m.slots.length (fT W W.ts.length)/\Below V0.heap.size V0 ((wr.alloc o).drewN n)):=fun o n => ⟨(HN.out.below (a0c _ o)).below (below_drewN (Below.refl _ _) n),below_drewN (Hb.out.alloc Hb.out.size o) n⟩
              clear hc he HN Hb
              go_wp2_with fail
              go_quiet (fail)
              go_wp2
              go_roundw
              case rel => exact ⟨k + 1,by omega,by go_num,(HNx.out _ _).1,(HNx.out _ _).2⟩
              case measure => simp [intOf]; omega
            · go_wp2
              go_ret
              exact ⟨rfl,b0.trans (Hb.out.mono (by have:=HZ0.out; omega))⟩
end
section
open Go.ChangeShapes Go.WideShapes Go.ChangeAt Go.RowKit Go.Joins Go.Deep
theorem fnWorldHeld : ∀ args W,(callFunc 31 args).run Tryz.prog W = .ok (.enter 31 args) W:=fun _ _ => by kernel_rfl
theorem lawWorldHeld (hP : Played) (hA : Asks 31) (many buckets tasks : Int) (l : List Pk) (aP : Option Addr) (cP : Nat) (w : World) (r : PRow w aP cP l) :
    Calls Tryz.prog 6 #[Vi Qi many,Vi Qi buckets,Vi Qi tasks,Vs aP l.length cP] w fun e w' => e = .returned (.bool true)/\Below w.heap.size w w':=by
  have HP : Hid (Calls Tryz.prog 18 #[] w fun e w' => e = .returned (.bool true)/\Below w.heap.size w w'):=hP w
  have HE : Hid (∀ W : World,Below w.heap.size w W->Calls Tryz.prog 26 #[Vi Qi many,Vi Qi buckets,Vi Qi tasks,Vs aP l.length cP,.func (.func 31) #[] #[]] W fun e w' => e = .returned (.bool true)/\Below W.heap.size W w'):=fun W hb => each_any _ fnWorldHeld hA many buckets tasks l aP cP W (r.below hb)
  clear hP hA r
  go_enter Tryz.func6,Tryz.ntmps6
  go_wp2_with fail
  refine HP.out.mono ?_
  rintro e w1 ⟨rfl,hb1⟩
  have Hb1 : Hid (Below w.heap.size w w1):=hb1
  clear hb1
  go_wp2_with fail
  refine (HE.out w1 Hb1.out).mono ?_
  rintro e w2 ⟨rfl,hb2⟩
  have Hb2 : Hid (Below w.heap.size w w2):=Hb1.out.trans (hb2.mono Hb1.out.size)
  clear hb2
  go_wp2
  go_ret
  exact ⟨rfl,Hb2.out⟩
end
section
open Go.ChangeShapes Go.WideShapes Go.ChangeAt Go.RowKit Go.Joins Go.Deep
theorem worldHeld_any (many buckets tasks : Int) (l : List Pk) (aP : Option Addr) (cP : Nat) (w : World) (r : PRow w aP cP l) :
    Calls Tryz.prog 6 #[Vi Qi many,Vi Qi buckets,Vi Qi tasks,Vs aP l.length cP] w fun e w' => e = .returned (.bool true)/\Below w.heap.size w w':=lawWorldHeld played_any asksHd many buckets tasks l aP cP w r
end
end Go.Proofs.YthhgoenomehobaaGreat.mm
