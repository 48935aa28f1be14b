/- Parts. -/
import Derived.Test.YthhgoenomehobaaGreatE49
namespace Go.Proofs.YthhgoenomehobaaGreat.mm
set_option maxRecDepth 100000
set_option linter.unusedVariables false
open Go.Value renaming int → Vi, slice → Vs
open Go.IntKind renaming i64 → Qi
section
open Go.ChangeShapes Go.WideShapes Go.ChangeAt Go.RowKit Go.Joins Go.Deep Go.Maps
def Pk.enc (x : Pk) : List Value:=[Vi Qi x.task,.bool x.step,.bool x.tick,Vi Qi x.c.kind,Vi Qi x.c.a,Vi Qi x.c.b,Vi Qi x.c.time,Vi Qi x.c.bk,Vi Qi x.c.slot]
def encX (l : List Pk) : List Value:=l.flatMap Pk.enc
theorem b3x (s : Pk) (l : List Pk) : encX (s :: l) = s.enc ++ encX l:=by simp [encX]
theorem b6d (l l' : List Pk) : encX (l ++ l') = encX l ++ encX l':=by simp [encX]
theorem b6e : ∀ (l : List Pk) (i q : Nat) (h : i < l.length) (hq : q < 9),(encX l)[i * 9 + q]? = (l[i].enc)[q]?
  | [],i,q,h,_ => by simp at h
  | s :: l,0,q,h,hq => by
    rw [b3x,Nat.zero_mul,Nat.zero_add,List.getElem?_append_left (by simp [Pk.enc]; omega)]; rfl
  | s :: l,i + 1,q,h,hq => by
    rw [b3x,List.getElem?_append_right (by simp [Pk.enc]; omega),show (i + 1) * 9 + q - s.enc.length = i * 9 + q by simp [Pk.enc]; omega]
    exact b6e l i q (by simpa using h) hq
theorem b5h {w : World} {lo size n c : Nat} {e : TypeId} {a : Option Addr} {xs : List Value} (h : w.ownsRow lo e size (Vs a n c) n xs) (h0 : 0 < n) : ∃ g,a = some ⟨g,0,none⟩/\n<=c/\lo<=g/\g < w.heap.size/\∀ j,j < n * size->w.cell? ⟨g,j,none⟩ = xs[j]?:=by
  obtain ⟨h1,h2⟩:=h
  rcases h2 with ⟨-,h3⟩ | ⟨g,cap,cur,hv,hg,hb,hn,-,hs,hc⟩
  · omega
  · cases hv
    refine ⟨g,rfl,hn,hg,lt_of_block hb,fun j hj => ?_⟩
    rw [cell_of_block hb,<- hc,List.getElem?_take_of_lt hj]
    simp
theorem PRow.own {w : World} {lo c : Nat} {a : Option Addr} {l : List Pk} (h : w.ownsRow lo 34 9 (Vs a l.length c) l.length (encX l)) (hm : l.length * 64<=140737488355328) : PRow w a c l:=by
  by_cases h0 : l.length = 0
  · obtain ⟨-,h2⟩:=h
    rcases h2 with ⟨hv,-⟩ | ⟨g,cap,cur,hv,-,-,hn,-⟩
    · injection hv with e1 e2 e3
      subst e1 e3
      exact ⟨by omega,hm,fun _ => rfl,.inl h0⟩
    · injection hv with e1 e2 e3
      subst e1 e3
      exact ⟨hn,hm,(fun e => by cases e),.inl h0⟩
  · obtain ⟨g,rfl,hn,-,-,hc⟩:=b5h h (by omega)
    refine ⟨hn,hm,(fun e => by cases e),.inr ⟨g,0,rfl,fun i hi j v hv => ?_⟩⟩
    have hj : j < 9:=by have:=(List.getElem?_eq_some_iff.1 hv).1; simpa using this
    rw [Nat.zero_add,hc (i * 9 + j) (by omega),b6e l i j hi hj]
    exact hv
theorem own_new (W : World) (e : TypeId) (size n lo : Nat) (cs : List Value) (hl : cs.length = n * size) (hn : n<=maxLen) (h : lo<=W.heap.size) : (W.alloc (.cells cs.toArray e)).ownsRow lo e size (Vs (some ⟨W.heap.size,0,none⟩) n n) n cs :=
  ⟨hl,.inr ⟨W.heap.size,n,cs.toArray,rfl,h,heap_alloc_new _ _,Nat.le_refl _,hn,by simpa using hl,by rw [<- hl]; simp⟩⟩
theorem iX : (Tryz.prog.info? 34).map (fun i => (i.zero,i.size,i.bytes)) = some (some (.agg #[Vi Qi 0,.bool false,.bool false,Vi Qi 0,Vi Qi 0,Vi Qi 0,Vi Qi 0,Vi Qi 0,Vi Qi 0]),9,64):=by kernel_rfl
def pk1 : Pk:=⟨0,false,false,⟨2,3,0,5,0,0⟩⟩
def pk2 : Pk:=⟨1,false,false,⟨1,3,0,0,0,0⟩⟩
def pk3 : Pk:=⟨1,true,false,⟨0,0,0,0,0,0⟩⟩
def pk0 : Pk:=⟨0,true,false,⟨0,0,0,0,0,0⟩⟩
def pkT : Pk:=⟨0,false,true,⟨0,0,0,0,0,0⟩⟩
def plS (k : Nat) : List Pk:=[pk1,pk2,pk3] ++ List.replicate k pk0
def plE : Rs:=runR 0 (rs0 (newW 2 1 2)) (plS 6 ++ [pk3,pk3,pkT])
theorem plE_said : plE.said = [0,0,0,0,0,0,0,0,0,0,8,0]:=by decide +kernel
theorem plE_past : plE.past.map (fun p => (p.e,p.task,p.to)) = [(0,0,8),(5,1,9)]:=by decide +kernel
theorem plE_now : plE.w.m.now = 1:=by decide +kernel
theorem c1s : (a2k plE.w.m).length = 1:=by decide +kernel
theorem runR_w : ∀ (l : List Pk) (n : Nat) (s : Rs),(runR n s l).w = runW s.w l
  | [],_,_ => rfl
  | x :: l,n,s => by show (runR (n + 1) (b0z n s x) l).w = _; rw [runR_w l,stepR_w]; rfl
theorem runR_inv {W : Wd} (I : WInv W) (l : List Pk) : WInv (runR 0 (rs0 W) l).w:=by rw [runR_w]; exact c1w l I
theorem plS_step (k : Nat) : plS (k + 1) = plS k ++ [pk0]:=by unfold plS; rw [List.append_assoc,List.replicate_succ']
theorem two_of {α : Type} : ∀ {l : List α},l.length = 2->∃ a b,l = [a,b]
  | [a,b],_ => ⟨a,b,rfl⟩
  | [],h => by cases h
  | [_],h => by cases h
  | _ :: _ :: _ :: _,h => by simp at h
set_option maxHeartbeats 1000000 in
theorem a8q : b5q:=by
  intro w
  have HN:=b6n 2 1 2 w
  obtain ⟨i0,hi0,hz0,hz1,hz2⟩:=info_parts iX
  go_enter Tryz.func18,Tryz.ntmps18
  go_wp2_with fail
  refine HN.mono ?_
  rintro e w1 ⟨v,rfl,hv,hb1⟩
  rw [show a9e 2 1 2 = 0 by decide,if_pos rfl,show newW (2 : Int).toNat (1 : Int).toNat (2 : Int).toNat = newW 2 1 2 from rfl] at *
  have HI : Hid (WInv (newW 2 1 2)):=c1e (by omega) (by omega) (by omega)
  have HsE : Hid (plE = runR 0 (rs0 (newW 2 1 2)) (plS 6 ++ [pk3,pk3,pkT])):=rfl
  generalize newW 2 1 2 = W0 at *
  obtain ⟨aS,aH,aF,aL,cS,cH,cF,cL,aT,cT,lt,rfl,-⟩:=id hv
  clear HN
  have HV1 : Hid (WAns w.heap.size w1 (.agg #[Vs aS W0.m.slots.length cS,Vs aH W0.m.heads.length cH,Vs aF W0.m.free.length cF,Vs aL W0.m.a0b.length cL,Vi Qi W0.m.now,Vs aT W0.ts.length cT]) W0):=hv
  have Hb1 : Hid (Below w.heap.size w w1):=hb1
  have hz : w.heap.size<=w1.heap.size:=hb1.size
  clear hv hb1
  have HRun : Hid (∀ (V : World) (v : Value) (a : Option Addr) (c lo : Nat),V.ownsRow lo 34 9 (Vs a 12 c) 12 (encX (plS 6 ++ [pk3,pk3,pkT]))->WAns 0 V v W0->Calls Tryz.prog 35 #[v,Vs a 12 c] V (RunP V plE)):=fun V v a c lo h hv => by
    rw [HsE.out]
    exact run_any HI.out v a c (plS 6 ++ [pk3,pk3,pkT]) V hv (PRow.own h (by decide)) (by decide)
  have HIe : Hid (WInv plE.w):=by show WInv plE.w; rw [HsE.out]; exact runR_inv HI.out _
  go_wp2_with fail
  obtain ⟨W2,hW2⟩ : ∃ W2,W2 = (w1.alloc (.cells #[Vs aS W0.m.slots.length cS,Vs aH W0.m.heads.length cH,Vs aF W0.m.free.length cF,Vs aL W0.m.a0b.length cL,Vi Qi W0.m.now,Vs aT W0.ts.length cT] 28)).alloc (.cells #[Vi Qi 3,Vi Qi 0] 30):=⟨_,rfl⟩
  have b2 : Below w1.heap.size w1 W2:=by rw [hW2]; exact below_alloc2 _ _ _
  have HX2 : Hid (W2.heap[w1.heap.size]? = some (.cells #[Vs aS W0.m.slots.length cS,Vs aH W0.m.heads.length cH,Vs aF W0.m.free.length cF,Vs aL W0.m.a0b.length cL,Vi Qi W0.m.now,Vs aT W0.ts.length cT] 28 (0,0))):=by show _ = _; rw [hW2,Below.heap_alloc _ _ _ (by simp),heap_alloc_new]
  have HZ2 : Hid (W2.heap.size = w1.heap.size + 2):=by show _ = _; rw [hW2]; simp
  have HV2 : Hid (WAns w.heap.size W2 (.agg #[Vs aS W0.m.slots.length cS,Vs aH W0.m.heads.length cH,Vs aF W0.m.free.length cF,Vs aL W0.m.a0b.length cL,Vi Qi W0.m.now,Vs aT W0.ts.length cT]) W0):=HV1.out.below b2
  have Hb2 : Hid (Below w.heap.size w W2):=Hb1.out.trans (b2.mono hz)
  rw [<- hW2]
  clear hW2 b2 HV1 Hb1
  have HO3 : Hid ((W2.alloc (.cells (encX (plS 0)).toArray 34)).ownsRow (w1.heap.size + 2) 34 9 (Vs (some ⟨w1.heap.size + 2,0,none⟩) 3 3) 3 (encX (plS 0))):=by
    have h:=own_new W2 34 9 3 (w1.heap.size + 2) (encX (plS 0)) rfl (by decide) (by have:=HZ2.out; omega)
    rw [HZ2.out] at h
    exact h
  have Hb3 : Hid (Below (w1.heap.size + 2) W2 (W2.alloc (.cells (encX (plS 0)).toArray 34))):=(Below.refl _ _).alloc (by have:=HZ2.out; omega) _
  go_loopw [4,23] (fun s i wr => ∃ (k : Nat) (a : Option Addr) (c : Nat),k<=6/\i = Vi Qi k/\s = Vs a (3 + k) c/\Hid (wr.ownsRow (w1.heap.size + 2) 34 9 (Vs a (3 + k) c) (3 + k) (encX (plS k)))/\Hid (Below (w1.heap.size + 2) W2 wr)) (fun _ i _ => 6 - (intOf i).toNat)
  case atStart => exact ⟨0,some ⟨w1.heap.size + 2,0,none⟩,3,by omega,rfl,rfl,HO3,Hb3⟩
  case round =>
    obtain ⟨k,a,c,hk,rfl,rfl,HO,Hb⟩:=hrel
    clear HO3 Hb3
    by_cases hlt : k < 6
    · have hlt' : (k : Int) < 6:=by omega
      have HC : Hid (∀ j u,[Vi Qi 0,.bool true,.bool false,Vi Qi 0,Vi Qi 0,Vi Qi 0,Vi Qi 0,Vi Qi 0,Vi Qi 0][j]? = some u->(wr.alloc (.cells #[Vi Qi 0,.bool true,.bool false,Vi Qi 0,Vi Qi 0,Vi Qi 0,Vi Qi 0,Vi Qi 0,Vi Qi 0] 34)).cell? ((⟨wr.heap.size,0,none⟩ : Addr).add j) = some u):=a8i (vs:=[Vi Qi 0,.bool true,.bool false,Vi Qi 0,Vi Qi 0,Vi Qi 0,Vi Qi 0,Vi Qi 0,Vi Qi 0]) (heap_alloc_new _ _)
      have HS : Hid (w1.heap.size + 2<=wr.heap.size):=by have:=Hb.out.size; have:=HZ2.out; show _<=_; omega
      have HBw : Hid (∀ w2 : World,(wr.alloc (.cells #[Vi Qi 0,.bool true,.bool false,Vi Qi 0,Vi Qi 0,Vi Qi 0,Vi Qi 0,Vi Qi 0,Vi Qi 0] 34)).grownBy w2 (Value.slice a (3 + k) c).ownBlock->Below (w1.heap.size + 2) W2 w2):=fun w2 hg => (Hb.out.alloc HS.out _).grown hg (by have:=HS.out; simp; omega) (fun q hq => (HO.out.lt q hq).1)
      go_wp2_with (at_builtin; refine wpList_append_own_at _ rfl (.tmp 25) (.tmp 27) 54 rfl (w1.heap.size + 2) 34 i0 (.agg #[Vi Qi 0,.bool false,.bool false,Vi Qi 0,Vi Qi 0,Vi Qi 0,Vi Qi 0,Vi Qi 0,Vi Qi 0]) 9 64 Tryz.underlying54 hi0 hz0 hz1 hz2 rfl (by decide) _ _ _ rfl (HO.out.alloc _) ⟨wr.heap.size,0,none⟩ 1 1 [Vi Qi 0,.bool true,.bool false,Vi Qi 0,Vi Qi 0,Vi Qi 0,Vi Qi 0,Vi Qi 0,Vi Qi 0] rfl rfl HC.out (by intro u hu; simp only [List.mem_cons,List.not_mem_nil,or_false] at hu; rcases hu with rfl | rfl | rfl | rfl | rfl | rfl | rfl | rfl | rfl <;> rfl) (by unfold maxLen; omega) (by omega) (by have:=HS.out; simp; omega) ?_; intro v2 w2 ho2 hg2 _ _; obtain ⟨g2,cap2,rfl⟩:=ownsRow_form ho2 (by omega); have HO2 : Hid (w2.ownsRow (w1.heap.size + 2) 34 9 (Vs (some ⟨g2,0,none⟩) (3 + k + 1) cap2) (3 + k + 1) (encX (plS k) ++ [Vi Qi 0,.bool true,.bool false,Vi Qi 0,Vi Qi 0,Vi Qi 0,Vi Qi 0,Vi Qi 0,Vi Qi 0])):=ho2; have Hb2' : Hid (Below (w1.heap.size + 2) W2 w2):=HBw.out w2 hg2; clear ho2 hg2)
      go_roundw
      case rel => exact ⟨k + 1,some ⟨g2,0,none⟩,cap2,by omega,by go_num,rfl,by rw [plS_step,b6d]; exact HO2,Hb2'⟩
      case measure => simp [intOf]; omega
    · have hk6 : k = 6:=by omega
      subst hk6
      have HO9 : Hid (wr.ownsRow (w1.heap.size + 2) 34 9 (Vs a 9 c) 9 (encX (plS 6))):=HO.out
      have HC : Hid (∀ j u,[Vi Qi 1,.bool true,.bool false,Vi Qi 0,Vi Qi 0,Vi Qi 0,Vi Qi 0,Vi Qi 0,Vi Qi 0,Vi Qi 1,.bool true,.bool false,Vi Qi 0,Vi Qi 0,Vi Qi 0,Vi Qi 0,Vi Qi 0,Vi Qi 0,Vi Qi 0,.bool false,.bool true,Vi Qi 0,Vi Qi 0,Vi Qi 0,Vi Qi 0,Vi Qi 0,Vi Qi 0][j]? = some u->(wr.alloc (.cells #[Vi Qi 1,.bool true,.bool false,Vi Qi 0,Vi Qi 0,Vi Qi 0,Vi Qi 0,Vi Qi 0,Vi Qi 0,Vi Qi 1,.bool true,.bool false,Vi Qi 0,Vi Qi 0,Vi Qi 0,Vi Qi 0,Vi Qi 0,Vi Qi 0,Vi Qi 0,.bool false,.bool true,Vi Qi 0,Vi Qi 0,Vi Qi 0,Vi Qi 0,Vi Qi 0,Vi Qi 0] 34)).cell? ((⟨wr.heap.size,0,none⟩ : Addr).add j) = some u):=a8i (vs:=[Vi Qi 1,.bool true,.bool false,Vi Qi 0,Vi Qi 0,Vi Qi 0,Vi Qi 0,Vi Qi 0,Vi Qi 0,Vi Qi 1,.bool true,.bool false,Vi Qi 0,Vi Qi 0,Vi Qi 0,Vi Qi 0,Vi Qi 0,Vi Qi 0,Vi Qi 0,.bool false,.bool true,Vi Qi 0,Vi Qi 0,Vi Qi 0,Vi Qi 0,Vi Qi 0,Vi Qi 0]) (heap_alloc_new _ _)
      have HS : Hid (w1.heap.size + 2<=wr.heap.size):=by have:=Hb.out.size; have:=HZ2.out; show _<=_; omega
      have HBw : Hid (∀ w2 : World,(wr.alloc (.cells #[Vi Qi 1,.bool true,.bool false,Vi Qi 0,Vi Qi 0,Vi Qi 0,Vi Qi 0,Vi Qi 0,Vi Qi 0,Vi Qi 1,.bool true,.bool false,Vi Qi 0,Vi Qi 0,Vi Qi 0,Vi Qi 0,Vi Qi 0,Vi Qi 0,Vi Qi 0,.bool false,.bool true,Vi Qi 0,Vi Qi 0,Vi Qi 0,Vi Qi 0,Vi Qi 0,Vi Qi 0] 34)).grownBy w2 (Value.slice a 9 c).ownBlock->Below (w1.heap.size + 2) W2 w2):=fun w2 hg => (Hb.out.alloc HS.out _).grown hg (by have:=HS.out; simp; omega) (fun q hq => (HO9.out.lt q hq).1)
      go_wp2_with (first | (at_builtin; refine wpList_append_own_at _ rfl (.tmp 30) (.tmp 34) 54 rfl (w1.heap.size + 2) 34 i0 (.agg #[Vi Qi 0,.bool false,.bool false,Vi Qi 0,Vi Qi 0,Vi Qi 0,Vi Qi 0,Vi Qi 0,Vi Qi 0]) 9 64 Tryz.underlying54 hi0 hz0 hz1 hz2 rfl (by decide) _ _ _ rfl (HO9.out.alloc _) ⟨wr.heap.size,0,none⟩ 3 3 [Vi Qi 1,.bool true,.bool false,Vi Qi 0,Vi Qi 0,Vi Qi 0,Vi Qi 0,Vi Qi 0,Vi Qi 0,Vi Qi 1,.bool true,.bool false,Vi Qi 0,Vi Qi 0,Vi Qi 0,Vi Qi 0,Vi Qi 0,Vi Qi 0,Vi Qi 0,.bool false,.bool true,Vi Qi 0,Vi Qi 0,Vi Qi 0,Vi Qi 0,Vi Qi 0,Vi Qi 0] rfl rfl HC.out (by intro u hu; simp only [List.mem_cons,List.not_mem_nil,or_false] at hu; rcases hu with rfl | rfl | rfl | rfl | rfl | rfl | rfl | rfl | rfl | rfl | rfl | rfl | rfl | rfl | rfl | rfl | rfl | rfl | rfl | rfl | rfl | rfl | rfl | rfl | rfl | rfl | rfl <;> rfl) (by unfold maxLen; omega) (by omega) (by have:=HS.out; simp; omega) ?_; intro v2 w2 ho2 hg2 _ _; obtain ⟨g2,cap2,rfl⟩:=ownsRow_form ho2 (by omega); have HO2 : Hid (w2.ownsRow (w1.heap.size + 2) 34 9 (Vs (some ⟨g2,0,none⟩) 12 cap2) 12 (encX (plS 6 ++ [pk3,pk3,pkT]))):=(by show World.ownsRow _ _ _ _ _ _ _; rw [b6d]; exact ho2); have Hb3 : Hid (Below W2.heap.size W2 w2):=(by show Below _ _ _; rw [HZ2.out]; exact HBw.out w2 hg2); have l6 : Hid (w2.rangeAt w1.heap.size 0 [Vs aS W0.m.slots.length cS,Vs aH W0.m.heads.length cH,Vs aF W0.m.free.length cF,Vs aL W0.m.a0b.length cL,Vi Qi W0.m.now,Vs aT W0.ts.length cT]):=a0q ((Hb3.out.block _ (lt_of_block HX2.out)).trans HX2.out) rfl; clear ho2 hg2) | refine wl_6 rfl _ rfl rfl l6.out ?_)
      have HX3 : Hid (w2.heap[w1.heap.size]? = _):=(Hb3.out.block _ (lt_of_block HX2.out)).trans HX2.out
      have Hb4 : Hid (Below w.heap.size w w2):=Hb2.out.trans (Hb3.out.mono (by have:=HZ2.out; omega))
      refine (HRun.out w2 _ (some ⟨g2,0,none⟩) cap2 _ HO2.out ((HV2.out.below Hb3.out).mono (Nat.zero_le _))).mono ?_
      rintro e w5 ⟨v5,v15,v45,pl,rfl,hv5,ho15,ho45,-,hpl5,hb5⟩
      rw [plE_said] at ho15
      have hpl2 : pl.map (fun q => (q.1.e,q.1.task,q.1.to)) = [(0,0,8),(5,1,9)]:=by
        have h:=plE_past
        rw [<- hpl5,List.map_map] at h
        exact h
      have hnow : Hid (plE.w.m.now = 1):=plE_now
      have hfl : Hid ((a2k plE.w.m).length = 1):=c1s
      have HX5 : Hid (w5.heap[w1.heap.size]? = _):=(hb5.block _ (lt_of_block HX3.out)).trans HX3.out
      have hxz : w1.heap.size < w2.heap.size:=lt_of_block HX3.out
      generalize plE = sE at *
      clear hpl5 HsE HRun HO9 HC HBw HO HO2 HX3 HX2 HV2 Hb3 l6 Hb HS Hb2
      obtain ⟨a1,k1,rfl⟩:=a2c ho15
      obtain ⟨g1,rfl,hk1,hg1,-,hc1⟩:=b5h ho15 (by decide)
      obtain ⟨q0,q1,rfl⟩ : ∃ q0 q1,pl = [q0,q1]:=two_of (by have h:=congrArg List.length hpl2; rw [List.length_map] at h; exact h)
      simp only [List.map_cons,List.map_nil,List.cons.injEq,Prod.mk.injEq,and_true] at hpl2
      obtain ⟨⟨e0,e1,-⟩,e2,-,e3⟩:=hpl2
      obtain ⟨a4,k4,rfl⟩:=a2c ho45
      obtain ⟨g4,rfl,hk4,hg4,-,hc4⟩:=b5h ho45 (by simp)
      have c10 : w5.cell? ⟨g1,10,none⟩ = some (Vi Qi 8):=hc1 10 (by decide)
      have d0 : w5.cell? ⟨g4,0,none⟩ = some (Vi Qi 0):=by rw [hc4 0 (by simp),<- e1]; rfl
      have d9 : w5.cell? ⟨g4,9,none⟩ = some (Vi Qi 0):=by rw [hc4 9 (by simp),<- e0]; rfl
      have d22 : w5.cell? ⟨g4,22,none⟩ = some (Vi Qi 5):=by rw [hc4 22 (by simp),<- e2]; rfl
      have d21 : w5.cell? ⟨g4,21,none⟩ = some (Vi Qi 9):=by rw [hc4 21 (by simp),show (9 : Int) = ((q1.1.to : Nat) : Int) by rw [e3]; rfl]; rfl
      obtain ⟨aS5,aH5,aF5,aL5,cS5,cH5,cF5,cL5,aT5,cT5,lt5,rfl,-⟩:=id hv5
      obtain ⟨W6,hW6⟩ : ∃ W6,W6 = w5.setCells w1.heap.size 0 [Vs aS5 sE.w.m.slots.length cS5,Vs aH5 sE.w.m.heads.length cH5,Vs aF5 sE.w.m.free.length cF5,Vs aL5 sE.w.m.a0b.length cL5,Vi Qi sE.w.m.now,Vs aT5 sE.w.ts.length cT5]:=⟨_,rfl⟩
      have ho6 : ∀ k,k ≠ w1.heap.size->W6.heap[k]? = w5.heap[k]?:=fun k hk => by rw [hW6]; exact a0f hk _ _ _
      have HX6 : Hid (W6.heap[w1.heap.size]? = some (.cells #[Vs aS5 sE.w.m.slots.length cS5,Vs aH5 sE.w.m.heads.length cH5,Vs aF5 sE.w.m.free.length cF5,Vs aL5 sE.w.m.a0b.length cL5,Vi Qi sE.w.m.now,Vs aT5 sE.w.ts.length cT5] 28 (0,0))):=by show _ = _; rw [hW6]; exact a1c HX5.out rfl
      have HV6 : Hid (WAns w2.heap.size W6 (.agg #[Vs aS5 sE.w.m.slots.length cS5,Vs aH5 sE.w.m.heads.length cH5,Vs aF5 sE.w.m.free.length cF5,Vs aL5 sE.w.m.a0b.length cL5,Vi Qi sE.w.m.now,Vs aT5 sE.w.ts.length cT5]) sE.w):=hv5.win fun k h1 h2 => ho6 k (by omega)
      have Hb6 : Hid (Below w.heap.size w W6):=by show Below w.heap.size w W6; rw [hW6]; exact a0p (Hb4.out.trans (hb5.mono Hb4.out.size)) hz
      have t6 : Hid (w5.there w1.heap.size 0 6):=a1j HX5.out (by simp)
      have l6 : Hid (W6.rangeAt w1.heap.size 0 [Vs aS5 sE.w.m.slots.length cS5,Vs aH5 sE.w.m.heads.length cH5,Vs aF5 sE.w.m.free.length cF5,Vs aL5 sE.w.m.a0b.length cL5,Vi Qi sE.w.m.now,Vs aT5 sE.w.ts.length cT5]):=a0q HX6.out rfl
      have hc6 : ∀ g j,w2.heap.size<=g->W6.cell? ⟨g,j,none⟩ = w5.cell? ⟨g,j,none⟩:=fun g j hg => World.cell?_of_block (ho6 g (by omega))
      have C10 : Hid (W6.cell? ⟨g1,10,none⟩ = some (Vi Qi 8)/\W6.cell? ⟨g4,0,none⟩ = some (Vi Qi 0)/\W6.cell? ⟨g4,9,none⟩ = some (Vi Qi 0)/\W6.cell? ⟨g4,22,none⟩ = some (Vi Qi 5)/\W6.cell? ⟨g4,21,none⟩ = some (Vi Qi 9)):=⟨(hc6 _ _ hg1).trans c10,(hc6 _ _ hg4).trans d0,(hc6 _ _ hg4).trans d9,(hc6 _ _ hg4).trans d22,(hc6 _ _ hg4).trans d21⟩
      clear hc1 hc4 c10 d0 d9 d22 d21 e0 e1 e2 e3 ho15 ho45 hv5 hb5 ho6 hc6 HX5 Hb4
      go_wp2_with (first | (refine ws_6 rfl _ _ rfl rfl rfl t6.out (by kernel_rfl) ?_; rw [<- hW6]; clear hW6 t6) | refine wl_6 rfl _ rfl rfl l6.out ?_)
      refine (a7g HIe.out HV6.out).mono ?_
      rw [hfl.out]
      rintro e w7 ⟨ao,cap,rfl,-,hb7⟩
      have hX7:=(hb7.block _ (lt_of_block HX6.out)).trans HX6.out
      obtain ⟨y0,y1,y2,y3,y4,y5,ys⟩:=a1w hX7
      rw [hnow.out] at y4
      have g10:=(a1z hb7).1 g1 10 (a0m C10.out.1)
      have f0:=((a1z hb7).1 g4 0 (a0m C10.out.2.1)).trans C10.out.2.1
      have f9:=((a1z hb7).1 g4 9 (a0m C10.out.2.1)).trans C10.out.2.2.1
      have f22:=((a1z hb7).1 g4 22 (a0m C10.out.2.1)).trans C10.out.2.2.2.1
      have f21:=((a1z hb7).1 g4 21 (a0m C10.out.2.1)).trans C10.out.2.2.2.2
      rw [C10.out.1] at g10
      have Hb7 : Hid (Below w.heap.size w w7):=Hb6.out.trans (hb7.mono Hb6.out.size)
      clear hb7 hX7 l6 HX6 HV6 Hb6 C10 hnow hfl y0 y1 y2 y3 y5 hg1 hg4
      go_wp2
      go_ret
      exact ⟨rfl,Hb7.out⟩
end
end Go.Proofs.YthhgoenomehobaaGreat.mm
