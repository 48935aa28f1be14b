/- Parts. -/
import Derived.Test.YthhgoenomehobaaGreatC45
import Derived.Test.YthhgoenomehobaaGreatC07
import Derived.Test.YthhgoenomehobaaGreatC49
namespace Go.Proofs.YthhgoenomehobaaGreat.mm
set_option maxRecDepth 100000
set_option linter.unusedVariables false
open Go.Value renaming int → Vi, slice → Vs
open Go.IntKind renaming i64 → Qi
section
open Go.ChangeShapes Go.WideShapes Go.ChangeAt Go.RowKit Go.Joins Go.Deep Go.Maps
set_option maxHeartbeats 1000000 in
theorem asksLk : Asks 32:=by
  intro W0 x w v v1 I0 hx0 hv hv1
  have I:=pick_inv I0 hx0
  generalize doW W0 x = W at *
  have HNl : Hid (W.m.locks.length = W.m.heads.length):=I.okc.ok.nl
  have hnh:=I.okc.ok.nh
  have hnt:=I.nt
  obtain ⟨aS0,aH0,aF0,aL0,cS0,cH0,cF0,cL0,aT0,cT0,lt0,rfl,-⟩:=hv
  obtain ⟨aS,aH,aF,aL,cS,cH,cF,cL,aT,cT,lt,rfl,A,-,hts,hT,-⟩:=hv1
  have HI : Hid (WInv W):=I
  have HTs : Hid (W.ts = lt.map (·.1)):=hts
  have hlen : W.ts.length = lt.length:=by rw [hts,List.length_map]
  have HLen : Hid (W.ts.length = lt.length):=hlen
  clear hts hlen I I0 hx0
  obtain ⟨ox,hox⟩ : ∃ o : Obj,o = .cells #[Vs aS0 W0.m.slots.length cS0,Vs aH0 W0.m.heads.length cH0,Vs aF0 W0.m.free.length cF0,Vs aL0 W0.m.locks.length cL0,Vi Qi W0.m.now,Vs aT0 W0.ts.length cT0] 28:=⟨_,rfl⟩
  obtain ⟨oy,hoy⟩ : ∃ o : Obj,o = .cells #[Vs aS W.m.slots.length cS,Vs aH W.m.heads.length cH,Vs aF W.m.free.length cF,Vs aL W.m.locks.length cL,Vi Qi W.m.now,Vs aT W.ts.length cT] 28:=⟨_,rfl⟩
  have b0 : Below w.heap.size w ((w.alloc ox).alloc oy):=below_alloc2 w ox oy
  have HY0 : Hid (((w.alloc ox).alloc oy).heap[w.heap.size + 1]? = some oy):=by
    have:=heap_alloc_new (w.alloc ox) oy
    rwa [show (w.alloc ox).heap.size = w.heap.size + 1 by simp] at this
  have HA0 : Hid (At ((w.alloc ox).alloc oy) aS aH aF aL cS cH cF cL W.m):=A.below b0
  have HT0 : Hid (TRow ((w.alloc ox).alloc oy) aT cT lt):=hT.below b0
  have z0 : ((w.alloc ox).alloc oy).heap.size = w.heap.size + 2:=by simp
  have ml:=A.l.max
  obtain ⟨i0,hi0,hz0,hz1,hz2⟩:=info_parts iI
  clear A hT
  go_enter Tryz.func32,Tryz.ntmps32
  go_wp2_with fail
  rw [<- hox,<- hoy]
  generalize (w.alloc ox).alloc oy = V0 at *
  subst hox hoy
  go_loopw [5,13] (fun s i wr => ∃ (k : Nat) (a : Option Addr) (c : Nat) (seen : List Int),k<=W.m.locks.length/\i = Vi Qi k/\s = Vs a seen.length c/\seen.length<=k/\Hid (wr.ownsRow V0.heap.size 3 1 (Vs a seen.length c) seen.length (encI seen))/\Hid (∀ y ∈ seen,y ≠ -1/\∃ b,b < k/\a0i W.m b = y)/\Hid (Below V0.heap.size V0 wr)) (fun _ i _ => W.m.locks.length - (intOf i).toNat)
  case atStart => exact ⟨0,none,0,[],Nat.zero_le _,rfl,rfl,Nat.le_refl _,World.ownsRow_nil _ _ _ _,(fun y h => by cases h),Below.refl _ _⟩
  case round =>
    obtain ⟨k,a,c,seen,hk,rfl,rfl,hsk,HO,HS,Hb⟩:=hrel
    have HYr : Hid (wr.heap[w.heap.size + 1]? = _):=(Hb.out.block _ (lt_of_block HY0.out)).trans HY0.out
    obtain ⟨q0,q1,q2,q3,q4,q5,qs⟩:=a2b HYr.out
    by_cases hlt : k < W.m.locks.length
    · have HAr : Hid (At wr aS aH aF aL cS cH cF cL W.m):=HA0.out.below Hb.out
      have HTr : Hid (TRow wr aT cT lt):=HT0.out.below Hb.out
      rcases HAr.out.l.at_ with h0 | ⟨bl,ol,rfl,hc⟩
      · omega
      have d0:=hc k hlt
      have HLk : Hid (a0i W.m k = W.m.locks[k]):=by
        show _ = _
        unfold a0i
        simp [List.getD_eq_getElem?_getD,hlt]
      clear hc
      obtain ⟨y,hy⟩ : ∃ y,y = W.m.locks[k]:=⟨_,rfl⟩
      rw [<- hy] at d0 HLk
      clear hy
      by_cases hy1 : y = -1
      · subst hy1
        have HS2 : Hid (∀ y ∈ seen,y ≠ -1/\∃ b,b < k + 1/\a0i W.m b = y):=fun y hy => ⟨(HS.out y hy).1,by obtain ⟨b,h1,h2⟩:=(HS.out y hy).2; exact ⟨b,by omega,h2⟩⟩
        clear HYr HAr HTr
        go_wp2
        go_roundw
        case rel => exact ⟨k + 1,a,c,seen,by omega,by go_num,rfl,by omega,HO,HS2,Hb⟩
        case measure => simp [intOf]; omega
      · obtain ⟨i,t,e1,e2,e3,e4,e5,e6⟩:=HI.out.locks (b:=k) (by rw [<- HNl.out]; exact hlt) (by rw [HLk.out]; exact hy1)
        have hyi : y = (i : Int):=HLk.out.symm.trans e1
        have hil : i < lt.length:=by
          have:=(List.getElem?_eq_some_iff.1 e2).1
          rw [<- HLen.out]; exact this
        have HtE : Hid (lt[i].1 = t):=by
          have h:=e2
          rw [HTs.out] at h
          show lt[i].1 = t
          simpa [hil] using h
        have hnot : hasB seen (i : Int) = false:=by
          rw [hasB_not]
          intro hm
          obtain ⟨hne,b,hb1,hb2⟩:=HS.out _ hm
          have:=HI.out.locks_once (b:=b) (c:=k) (by rw [<- HNl.out]; omega) (by rw [<- HNl.out]; exact hlt) (by rw [hb2]; exact hne) (by rw [hb2,e1])
          omega
        subst hyi
        have HLk2 : Hid (a0i W.m k = (i : Int)):=e1
        have hil' : (i : Int) < (W.ts.length : Int):=by have:=HLen.out; omega
        have HCt : Hid (∀ W',Below wr.heap.size wr W'->Calls Tryz.prog 33 #[Vs a seen.length c,Vi Qi (i : Int)] W' fun e w' => e = .returned (.bool false)/\W' = w'):=fun W' hb => by
          have r : IRow W' a c seen:=(IRow.own HO.out (by omega)).below hb
          have h:=a2x a seen.length c seen (i : Int) W' (Nat.le_refl _) (by omega) r.at_
          rw [List.take_length,hnot] at h
          exact h
        have hmt:=HTr.out.max
        obtain ⟨bt,ot,rfl⟩:=HTr.out.addr (by omega)
        have HRg : Hid (∀ W' : World,Below V0.heap.size V0 W'->W'.rangeAt bt (ot + i * 16) (t.enc lt[i].2)):=fun W' hb => by
          have h:=(HT0.out.below hb).range hil
          rw [HtE.out] at h
          exact h
        have HBk : Hid (∀ W' : World,Calls Tryz.prog 34 #[.agg #[Vs aS W.m.slots.length cS,Vs aH W.m.heads.length cH,Vs aF W.m.free.length cF,Vs (some ⟨bl,ol,none⟩) W.m.locks.length cL,Vi Qi W.m.now],.agg #[Vi Qi t.f.c.kind,Vi Qi t.f.c.a,Vi Qi t.f.c.b,Vi Qi t.f.c.time,Vi Qi t.f.c.bk,Vi Qi t.f.c.slot]] W' fun e w' => e = .returned (Vi Qi (k : Int))/\Below W'.heap.size W' w'):=fun W' => by
          have h:=a0q aS aH aF (some ⟨bl,ol,none⟩) W.m.slots.length W.m.heads.length W.m.free.length W.m.locks.length cS cH cF cL W.m.now t.f.c W' (by omega)
          have hin:=a1m HI.out.okc.ok (HI.out.fi t (List.mem_of_getElem? e2) e3).fit.call
          have hb : bkOf W.m.heads.length t.f.c = (k : Int):=by
            have : (bkOf W.m.heads.length t.f.c).toNat = k:=e6
            omega
          rw [hb] at h
          exact h
        have hk1 : (t.f.c.kind == 1) = false:=by simpa using e4
        have hk6 : (t.f.c.kind == 6) = false:=by simpa using e5
        have hbz : t.busy = true:=e3
        have hlow : ¬ ((i : Int) < 0):=by omega
        have hge : ¬ ((W.ts.length : Int)<=(i : Int)):=by omega
        obtain ⟨pv,hpv⟩ : ∃ pv,pv = lt[i].2:=⟨_,rfl⟩
        rw [<- hpv] at HRg
        clear e1 e2 e3 e4 e5 e6 hnot HtE HTr HAr hpv HLk
        go_wp2_with fail
        refine (HCt.out wr (Below.refl _ _)).mono ?_
        rintro e wr' ⟨rfl,rfl⟩
        have hseen : seen.length<=4:=by have:=HNl.out; omega
        have HBw : Hid (∀ w2 : World,(wr.alloc (.cells #[Vi Qi (i : Int)] 3)).grownBy w2 (Value.slice a seen.length c).ownBlock->Below V0.heap.size V0 w2):=fun w2 hg => (Hb.out.alloc Hb.out.size _).grown hg (by simp; have:=Hb.out.size; omega) (fun q hq => (HO.out.lt q hq).1)
        clear q0 q1 q2 q3 q4 q5 d0 HCt
        have hwz:=Hb.out.size
        go_wp2_with (first | (at_builtin; refine wpList_append_own_at _ rfl (.tmp 34) (.tmp 36) 23 rfl V0.heap.size 3 i0 (Vi Qi 0) 1 8 Tryz.underlying23 hi0 hz0 hz1 hz2 rfl (by decide) _ _ _ rfl (HO.out.alloc _) ⟨wr.heap.size,0,none⟩ 1 1 [Vi Qi (i : Int)] rfl rfl (cell_one_new _ _ _) (by intro u hu; simp at hu; subst hu; rfl) (by unfold maxLen; omega) (by omega) (by simp; omega) ?_; intro v2 w2 ho2 hg2 _ hloc2; obtain ⟨g2,cap2,rfl⟩:=ownsRow_form ho2 (by omega); have HO2 : Hid (w2.ownsRow V0.heap.size 3 1 (Vs (some ⟨g2,0,none⟩) (seen.length + 1) cap2) (seen.length + 1) (encI seen ++ [Vi Qi (i : Int)])):=ho2; have Hb2 : Hid (Below V0.heap.size V0 w2):=HBw.out w2 hg2; have hb2' : Below V0.heap.size V0 w2:=Hb2.out; have HY2 : Hid (w2.heap[w.heap.size + 1]? = _):=(Hb2.out.block _ (lt_of_block HY0.out)).trans HY0.out; obtain ⟨q0,q1,q2,q3,q4,q5,qs2⟩:=a2b HY2.out; clear ho2 hg2 hloc2) | refine wl_T rfl _ rfl rfl (HRg.out _ (by assumption)) ?_)
        refine (HBk.out _).mono ?_
        rintro e w4 ⟨rfl,hb4⟩
        have Hz2:=HO2.out.lt g2 rfl
        have HO4 : Hid (w4.ownsRow V0.heap.size 3 1 (Vs (some ⟨g2,0,none⟩) (seen ++ [(i : Int)]).length cap2) (seen ++ [(i : Int)]).length (encI (seen ++ [(i : Int)]))):=by
          rw [show (seen ++ [(i : Int)]).length = seen.length + 1 by simp,show encI (seen ++ [(i : Int)]) = encI seen ++ [Vi Qi (i : Int)] by simp [encI]]
          exact own_below (HO2.out.alloc _) hb4
        have Hb4 : Hid (Below V0.heap.size V0 w4):=(Hb2.out.alloc Hb2.out.size _).trans (hb4.mono (by have:=Hb2.out.size; simp; omega))
        have HS4 : Hid (∀ y ∈ seen ++ [(i : Int)],y ≠ -1/\∃ b,b < k + 1/\a0i W.m b = y):=fun y hy => by
          rcases List.mem_append.1 hy with h | h
          · exact ⟨(HS.out y h).1,by obtain ⟨b,h1,h2⟩:=(HS.out y h).2; exact ⟨b,by omega,h2⟩⟩
          · rw [List.mem_singleton.1 h]
            exact ⟨by omega,k,by omega,HLk2.out⟩
        have hsl : seen.length + 1 = (seen ++ [(i : Int)]).length:=by simp
        have hkk : ((k : Int) != (k : Int)) = false:=by simp
        clear q0 q1 q2 q3 q4 q5 hb4 HO2 Hb2 HY2 hb2' hsl Hz2 hlow hge hbz hk1 hk6
        dsimp only
        go_wp2
        go_roundw
        case rel => exact ⟨k + 1,some ⟨g2,0,none⟩,cap2,seen ++ [(i : Int)],by omega,by go_num,by rw [List.length_append]; rfl,by rw [List.length_append]; simp; omega,HO4,HS4,Hb4⟩
        case measure => simp [intOf]; omega
    · go_wp2
      go_ret
      exact ⟨rfl,b0.trans (Hb.out.mono (by omega))⟩
end
section
open Go.ChangeShapes Go.WideShapes Go.ChangeAt Go.RowKit Go.Joins Go.Deep
theorem worldLocks_any (many buckets tasks : Int) (l : List Pk) (aP : Option Addr) (cP : Nat) (w : World) (r : PRow w aP cP l) :
    Calls Tryz.prog 7 #[Vi Qi many,Vi Qi buckets,Vi Qi tasks,Vs aP l.length cP] w fun e w' => e = .returned (.bool true)/\Below w.heap.size w w':=lawWorldLocks played_any asksLk many buckets tasks l aP cP w r
end
end Go.Proofs.YthhgoenomehobaaGreat.mm
