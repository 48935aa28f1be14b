/- Parts. -/
import Derived.Test.YthhgoenomehobaaGreatE03
import Derived.Deep.QuietTactic
import Derived.BigQuiet
import Derived.Laws.StructEq
import Derived.Test.YthhgoenomehobaaGreatE02
import Derived.Test.YthhgoenomehobaaGreatE06
import Derived.Lib.BufferMore
namespace Go.Proofs.YthhgoenomehobaaGreat.mm
set_option maxRecDepth 100000
set_option linter.unusedVariables false
open Go.Value renaming int → Vi, slice → Vs
open Go.IntKind renaming i64 → Qi
section
open Go.ChangeShapes Go.WideShapes Go.ChangeAt Go.RowKit Go.Joins Go.Deep
theorem b0d (w : World) (q : Nat) : Below w.heap.size w (w.drewN q):=⟨rfl,rfl,rfl,Nat.le_refl _,fun _ _ => rfl⟩
theorem kequal9 (a b c d : Int) (w : World) : (Op.equalIn 9999 30 (.agg #[Vi Qi a,Vi Qi b]) (.agg #[Vi Qi c,Vi Qi d])).run Tryz.prog w = .ok (a == c && b == d) w:=by
  have u3:=Tryz.underlying3
  have a3:=Tryz.isAgg3
  have z3:=Tryz.sizeOf3
  have hS : Tryz.prog.underlying 30 = some (.struct (Tryz.prog.fieldsOf 30)):=by kernel_rfl
  have hp : Tryz.prog.stoodInHeld 30 = false:=by kernel_rfl
  rw [show (9999 : Nat) = 9998 + 1 from rfl,run_equalIn_agg w 9998 30 _ _ hS hp]
  simp only [Program.fieldsOf,Tryz.underlying30]
  go_simp
  by_cases h1 : a = c <;> by_cases h2 : b = d <;> simp [h1,h2]
end
section
open Go.ChangeShapes Go.WideShapes Go.ChangeAt Go.RowKit Go.Joins
theorem new_bad (a b : Int) (w : World) (h : newE a b = 3) :
    Calls Tryz.prog 59 #[Vi Qi a,Vi Qi b] w fun e w' => e = .returned (.tuple #[.agg #[Vs none 0 0,Vs none 0 0,Vs none 0 0,Vs none 0 0,Vi Qi 0],Vi Qi 3])/\Below w.heap.size w w':=by
  have hh : inB a 0 12 = false\/(inB a 0 12 = true/\inB b 1 4 = false):=by
    unfold newE at h
    cases h1 : inB a 0 12
    · exact .inl rfl
    · cases h2 : inB b 1 4
      · exact .inr ⟨rfl,rfl⟩
      · simp [h1,h2] at h
  clear h
  rcases hh with h1 | ⟨h1,h2⟩
  all_goals
    go_enter Tryz.func59,Tryz.ntmps59
    go_wp2_with (go_at_call 85; refine (a0w _ _ _ _).mono ?_; rintro e w1 ⟨rfl,rfl⟩)
    exact bodyPost_ret (v:=.tuple #[.agg #[Vs none 0 0,Vs none 0 0,Vs none 0 0,Vs none 0 0,Vi Qi 0],Vi Qi 3]) (by simp [results,Tryz.results59,go_sem]) rfl ⟨rfl,a0c _ _⟩
def a5t (n k : Nat) : List Int:=(List.range k).map fun (a : Nat) => (n : Int) - 1 - (a : Int)
def a5u (k : Nat) : List Int:=(List.range k).map fun (b : Nat) => -1 - (b : Int)
def b0n (k : Nat) : List Int:=List.replicate k (-1)
theorem b5c (n k : Nat) : a5t n (k + 1) = a5t n k ++ [(n : Int) - 1 - k]:=by simp [a5t,List.range_succ]
theorem b5d (k : Nat) : a5u (k + 1) = a5u k ++ [-1 - (k : Int)]:=by simp [a5u,List.range_succ]
theorem b5e (k : Nat) : b0n (k + 1) = b0n k ++ [-1]:=by simp [b0n,List.replicate_succ']
theorem a6m (n k : Nat) : (a5t n k).length = k:=by simp [a5t]
theorem a6n (k : Nat) : (a5u k).length = k:=by simp [a5u]
theorem a6o (k : Nat) : (b0n k).length = k:=by simp [b0n]
theorem c1b (n : Nat) : (madeCells #[Vi Qi 0,Vi Qi 0,Vi Qi 0,Vi Qi 0,.bool false,Vi Qi 0] (n * 6)).toList = encS (List.replicate n sl0):=by
  apply List.ext_getElem?
  intro j
  by_cases hj : j < n * 6
  · have h6 : j / 6 < n:=by omega
    have hq : j % 6 < 6:=by omega
    have e6 : j / 6 * 6 + j % 6 = j:=by omega
    have r : (encS (List.replicate n sl0))[j]? = (sl0.enc)[j % 6]?:=by
      have:=a9j (List.replicate n sl0) (j / 6) (j % 6) (by simpa using h6) hq
      rw [e6] at this
      rw [this]
      simp
    rw [r]
    have l : (madeCells #[Vi Qi 0,Vi Qi 0,Vi Qi 0,Vi Qi 0,.bool false,Vi Qi 0] (n * 6)).toList[j]? = some ((#[Vi Qi 0,Vi Qi 0,Vi Qi 0,Vi Qi 0,.bool false,Vi Qi 0] : Array Value)[j % 6]!):=by
      simp [madeCells,hj]
    rw [l]
    generalize j % 6 = q at hq
    match q,hq with
    | 0,_ => rfl
    | 1,_ => rfl
    | 2,_ => rfl
    | 3,_ => rfl
    | 4,_ => rfl
    | 5,_ => rfl
  · rw [List.getElem?_eq_none (by simp [madeCells]; omega),List.getElem?_eq_none (by rw [a4n]; simp; omega)]
theorem Ans.off {lo g : Nat} {w w' : World} {v : Value} {M : Mm} (A : Ans lo w v M) (hg : g < lo) (h : ∀ k,k ≠ g->w'.heap[k]? = w.heap[k]?) : Ans lo w' v M:=by
  obtain ⟨aS,aH,aF,aL,cS,cH,cF,cL,e,A,hi⟩:=A
  exact ⟨aS,aH,aF,aL,cS,cH,cF,cL,e,A.off hi hg h,hi⟩
set_option maxHeartbeats 3200000 in
theorem new_ok (n m : Nat) (w : World) (hn : n<=12) (h1 : 1<=m) (h4 : m<=4) :
    Calls Tryz.prog 59 #[Vi Qi n,Vi Qi m] w fun e w' => ∃ v,e = .returned (.tuple #[v,Vi Qi 0])/\Ans w.heap.size w' v (newM n m)/\Below w.heap.size w w':=by
  obtain ⟨i0,hi,hz0,hz1,hz2⟩:=info_parts iI
  obtain ⟨j0,hj,yz0,yz1,yz2⟩:=info_parts iS
  have e1 : inB (n : Int) 0 12 = true:=(a0h _ _ _).2 ⟨by omega,by omega⟩
  have e2 : inB (m : Int) 1 4 = true:=(a0h _ _ _).2 ⟨by omega,by omega⟩
  go_enter Tryz.func59,Tryz.ntmps59
  go_wp2_with (first
    | (go_at_call 85; refine (a0w _ _ _ _).mono ?_; rintro e w1 ⟨rfl,rfl⟩)
    | (at_make; refine wpList_make_full _ rfl _ _ 22 rfl (w.heap.size + 1) 64 j0 (.agg #[Vi Qi 0,Vi Qi 0,Vi Qi 0,Vi Qi 0,.bool false,Vi Qi 0]) 6 Tryz.underlying22 hj yz0 yz1 .i64 .i64 _ _ n rfl rfl rfl rfl (by rw [yz2]; omega) (by unfold maxLen; omega) (by simp) ?_; intro w1 hown hgrow))
  rw [show (w.alloc (.cells #[Vs none 0 0,Vs none 0 0,Vs none 0 0,Vs none 0 0,Vi Qi 0] 25)).heap.size = w.heap.size + 1 by simp] at *
  obtain ⟨W0,hW0⟩ : ∃ W0,W0 = w.alloc (.cells #[Vs none 0 0,Vs none 0 0,Vs none 0 0,Vs none 0 0,Vi Qi 0] 25):=⟨_,rfl⟩
  have HR : Hid (W0.heap[w.heap.size]? = some (.cells #[Vs none 0 0,Vs none 0 0,Vs none 0 0,Vs none 0 0,Vi Qi 0] 25)):=by rw [hW0]; exact heap_alloc_new _ _
  have HW : Hid (Below w.heap.size w W0):=by rw [hW0]; exact a0c _ _
  have HZ : Hid (W0.heap.size = w.heap.size + 1):=by show _ = _; rw [hW0]; simp
  rw [<- hW0] at hgrow
  clear hW0
  have hS : w1.ownsRow (w.heap.size + 1) 64 6 (Vs (some ⟨w.heap.size + 1,0,none⟩) n n) n (encS (List.replicate n sl0)):=by
    rw [<- c1b n]; exact hown
  have z1 : w.heap.size + 1 < w1.heap.size:=(hS.lt _ rfl).2
  have G0 : Gr W0 (w.heap.size + 1) w1.heap.size (w1.alloc (.cells #[Vs (some ⟨w.heap.size + 1,0,none⟩) n n,Vs none 0 0,Vs none 0 0,Vs none 0 0,Vi Qi 0] 25)) (Vs (some ⟨w.heap.size + 1,0,none⟩) n n) (Vs none 0 0) (Vs none 0 0) (Vs none 0 0) (List.replicate n sl0) [] [] []:=by
    refine ⟨heap_alloc_new _ _,?_,World.ownsRow_nil _ _ _ _,World.ownsRow_nil _ _ _ _,World.ownsRow_nil _ _ _ _,(fun g h => by cases h),(fun g h => by cases h),(fun g h => by cases h),by omega,?_⟩
    · rw [List.length_replicate]; exact hS.alloc _
    · exact ((Below.refl _ W0).grown hgrow (by rw [HZ.out]; exact Nat.le_refl _) (fun k h => by cases h)).alloc (by omega) _
  clear hown hgrow hS
  go_loopw [22] (fun i wr => ∃ k : Nat,k<=n/\i = Vi Qi k/\∃ fv,Gr W0 (w.heap.size + 1) w1.heap.size wr (Vs (some ⟨w.heap.size + 1,0,none⟩) n n) (Vs none 0 0) fv (Vs none 0 0) (List.replicate n sl0) [] (a5t n k) [])
    (fun i _ => n - (intOf i).toNat)
  case atStart => exact ⟨0,Nat.zero_le _,rfl,_,G0⟩
  case round =>
    obtain ⟨k,hk,rfl,fv,G⟩:=hrel
    clear G0
    obtain ⟨ao,cap,rfl⟩:=a2c G.f
    rw [a6m] at G
    obtain ⟨q0,q1,q2,q3,q4,f0,f1,f2,f3,f4,qs⟩:=boxf G.box
    by_cases hlt : k < n
    · have hne : ∀ b : Nat,b < w1.heap.size->True:=fun _ _ => trivial
      go_wp2_with (at_builtin; refine wpList_append_own_at _ rfl (.tmp 26) (.tmp 31) 23 rfl (w.heap.size + 1) 3 i0 (Vi Qi 0) 1 8 Tryz.underlying23 hi hz0 hz1 hz2 rfl (by first | decide | exact Ex.ne _ _ (by decide)) _ _ _ rfl (G.f.alloc _) ⟨wr.heap.size,0,none⟩ 1 1 [Vi Qi ((n : Int) - 1 - (k : Int))] rfl rfl (b5g _ _ _ _ rfl) (by intro u hu; simp at hu; subst hu; rfl) (by rw [a6m]; unfold maxLen; omega) (by rw [a6m]; omega) (by simp; omega) ?_; intro v2 w2 ho2 hg2 _ hloc2; obtain ⟨g2,cap2,rfl⟩:=ownsRow_form ho2 (by omega); have HO2 : Hid (w2.ownsRow (w.heap.size + 1) 3 1 _ ((a5t n k).length + 1) (encI (a5t n k) ++ [Vi Qi ((n : Int) - 1 - (k : Int))])):=ho2; have HG2 : Hid ((wr.alloc (.cells #[Vi Qi ((n : Int) - 1 - (k : Int))] 3)).grownBy w2 (Value.slice ao k cap).ownBlock):=⟨hg2.1,hg2.2,hg2.3,hg2.4,hg2.5⟩; have HL2 : Hid ((Value.slice (some ⟨g2,0,none⟩) ((a5t n k).length + 1) cap2).ownBlock = (Value.slice ao k cap).ownBlock\/(Value.slice (some ⟨g2,0,none⟩) ((a5t n k).length + 1) cap2).ownBlock = some (wr.alloc (.cells #[Vi Qi ((n : Int) - 1 - (k : Int))] 3)).heap.size):=hloc2; clear ho2 hg2 hloc2 q0 q1 q2 q3 q4 f0 f1 f2 f3 f4; obtain ⟨q0,q1,q2,q3,q4,f0,f1,f2,f3,f4,qs2⟩:=boxf (a2e G.box HG2.out (own_ne G.f G.box (by first | decide | exact Ex.ne _ _ (by decide)))))
      go_roundw
      case rel => exact ⟨k + 1,by omega,by go_num,_,by rw [b5c]; exact G.f_step HO2.out HG2.out HL2.out⟩
      case measure => simp [intOf]; omega
    · obtain rfl : k = n:=by omega
      go_wp2
      go_loopw [36] (fun i wr => ∃ j : Nat,j<=m/\i = Vi Qi j/\∃ hv lv,Gr W0 (w.heap.size + 1) w1.heap.size wr (Vs (some ⟨w.heap.size + 1,0,none⟩) k k) hv (Vs ao k cap) lv (List.replicate k sl0) (a5u j) (a5t k k) (b0n j))
        (fun i _ => m - (intOf i).toNat)
      case atStart => exact ⟨0,Nat.zero_le _,rfl,_,_,G⟩
      case round =>
        obtain ⟨j,hj,rfl,hv,lv,G2⟩:=hrel
        clear G q0 q1 q2 q3 q4 f0 f1 f2 f3 f4 qs
        obtain ⟨aH,cH,rfl⟩:=a2c G2.h
        obtain ⟨aL,cL,rfl⟩:=a2c G2.l
        rw [a6n,a6o] at G2
        obtain ⟨q0,q1,q2,q3,q4,f0,f1,f2,f3,f4,qs⟩:=boxf G2.box
        by_cases hlt2 : j < m
        · have HOX : ((wr.alloc (.cells #[Vi Qi (-1 - (j : Int))] 3)).drew).ownsRow (w.heap.size + 1) 3 1 (Vs aH j cH) (a5u j).length (encI (a5u j)):=(G2.h.alloc (.cells #[Vi Qi (-1 - (j : Int))] 3) : (wr.alloc (.cells #[Vi Qi (-1 - (j : Int))] 3)).ownsRow (w.heap.size + 1) 3 1 (Vs aH j cH) (a5u j).length (encI (a5u j)))
          have HCX : ∀ q u,[Value.int .i64 (-1 - (j : Int))][q]? = some u->((wr.alloc (.cells #[Vi Qi (-1 - (j : Int))] 3)).drew).cell? ((⟨wr.heap.size,0,none⟩ : Addr).add q) = some u:=fun q u h => cell_one_new wr (Vi Qi (-1 - (j : Int))) 3 q u h
          have G2' : Gr W0 (w.heap.size + 1) w1.heap.size wr.drew (Vs (some ⟨w.heap.size + 1,0,none⟩) k k) (Vs aH j cH) (Vs ao k cap) (Vs aL j cL) (List.replicate k sl0) (a5u j) (a5t k k) (b0n j):=⟨G2.box,G2.s,G2.h,G2.f,G2.l,G2.hf,G2.hl,G2.fl,G2.at_,G2.below.drew⟩
          go_wp2_with fail
          go_region_law (first
            | (go_simp; go_at_call 108; refine (a4k _ _ (by omega) (by omega)).mono ?_; rintro e wq ⟨rfl,rfl⟩)
            | (refine a3i _ rfl (.tmp 40) (.tmp 43) 23 rfl (w.heap.size + 1) 3 i0 (Vi Qi 0) 1 8 Tryz.underlying23 hi hz0 hz1 hz2 rfl (by first | decide | exact Ex.ne _ _ (by decide)) (Vs aH j cH) _ _ rfl HOX ⟨wr.heap.size,0,none⟩ 1 1 [Vi Qi (-1 - (j : Int))] rfl rfl HCX (by intro u hu; simp at hu; subst hu; rfl) (by rw [a6n]; unfold maxLen; omega) (by rw [a6n]; omega) (by simp; omega) ?_; intro v2 w2 ho2 hg2 _ hloc2; obtain ⟨g2,cap2,rfl⟩:=ownsRow_form ho2 (by omega); have HG2 : Hid ((wr.alloc (.cells #[Vi Qi (-1 - (j : Int))] 3)).grownBy w2 (Value.slice aH j cH).ownBlock):=⟨hg2.1,hg2.2,hg2.3,hg2.4,hg2.5⟩; have G3:=G2.h_step (x:=-1 - (j : Int)) ho2 HG2.out hloc2; clear ho2 hg2 hloc2 q0 q1 q2 q3 q4 f0 f1 f2 f3 f4; obtain ⟨q0,q1,q2,q3,q4,f0,f1,f2,f3,f4,qs2⟩:=boxf (a2e G2.box HG2.out (own_ne G2.h G2.box (by first | decide | exact Ex.ne _ _ (by decide)))); have z2 : w1.heap.size < w2.heap.size:=qs2))
          all_goals go_wp2_with (at_builtin; refine wpList_append_own_at _ rfl (.tmp 47) (.tmp 48) 23 rfl (w.heap.size + 1) 3 i0 (Vi Qi 0) 1 8 Tryz.underlying23 hi hz0 hz1 hz2 rfl (by first | decide | exact Ex.ne _ _ (by decide)) _ _ _ rfl (G3.l.alloc _) ⟨w2.heap.size,0,none⟩ 1 1 [Vi Qi (-1)] rfl rfl (b5g _ _ _ _ (World.size_setCell ..).symm) (by intro u hu; simp at hu; subst hu; rfl) (by rw [a6o]; unfold maxLen; omega) (by rw [a6o]; omega) (by simp; omega) ?_; intro v3 w3 ho3 hg3 _ hloc3; obtain ⟨g3,cap3,rfl⟩:=ownsRow_form ho3 (by omega); have HG3 : Hid (((w2.setCell ⟨w1.heap.size,1,none⟩ (Vs (some ⟨g2,0,none⟩) ((a5u j).length + 1) cap2)).alloc (.cells #[Vi Qi (-1)] 3)).grownBy w3 (Value.slice aL j cL).ownBlock):=hg3; have G4:=G3.l_step (x:=-1) ho3 HG3.out hloc3; clear ho3 hg3 hloc3 q0 q1 q2 q3 q4 f0 f1 f2 f3 f4; obtain ⟨q0,q1,q2,q3,q4,f0,f1,f2,f3,f4,qs3⟩:=boxf (a2e G3.box HG3.out (own_ne G3.l G3.box (by first | decide | exact Ex.ne _ _ (by decide)))))
          all_goals (go_roundw; (case rel => exact ⟨j + 1,by omega,by go_num,_,_,by rw [b5d,b5e]; exact G4⟩); (case measure => simp [intOf]; omega))
        · obtain rfl : j = m:=by omega
          have HR2 : Hid (wr.heap[w.heap.size]? = _):=(G2.below.block w.heap.size (by omega)).trans HR.out
          obtain ⟨r0,r1,r2,r3,r4,g0,g1,g2,g3,g4,rs⟩:=boxf HR2.out
          have A:=G2.ans (by simp; omega) (by rw [a6n]; omega) (by rw [a6m]; omega) (by rw [a6o]; omega)
          have HA : Hid (Ans (w.heap.size + 1) wr _ _):=A
          have HB : Hid (Below w.heap.size w wr):=HW.out.trans (G2.below.mono (by omega))
          clear A G2
          go_wp2
          refine bodyPost_ret (v:=.tuple #[.agg #[Vs (some ⟨w.heap.size + 1,0,none⟩) k k,Vs aH j cH,Vs ao k cap,Vs aL j cL,Vi Qi 0],Vi Qi 0]) (by simp [results,Tryz.results59,go_sem,r0,r1,r2,r3,r4]) rfl ⟨_,rfl,?_,?_⟩
          · exact (HA.out.off (by omega) (fun k hk => b1y (w:=wr) hk)).mono (by omega)
          · exact HB.out.trans (a8r wr _ _ _ _ _ _ _ (by omega))
end
section
open Go.ChangeShapes Go.WideShapes Go.ChangeAt Go.RowKit Go.Joins
theorem a8w (a b c d : Int) (w : World) : (Op.equalIn 10000 30 (.agg #[Vi Qi a,Vi Qi b]) (.agg #[Vi Qi c,Vi Qi d])).run Tryz.prog w = .ok (a == c && b == d) w:=by
  have u3:=Tryz.underlying3
  have a3:=Tryz.isAgg3
  have z3:=Tryz.sizeOf3
  have hS : Tryz.prog.underlying 30 = some (.struct (Tryz.prog.fieldsOf 30)):=by kernel_rfl
  have hp : Tryz.prog.stoodInHeld 30 = false:=by kernel_rfl
  rw [show (10000 : Nat) = 9999 + 1 from rfl,run_equalIn_agg w 9999 30 _ _ hS hp]
  simp only [Program.fieldsOf,Tryz.underlying30]
  go_simp
  by_cases h1 : a = c <;> by_cases h2 : b = d <;> simp [h1,h2]
def fM1 : Mm:=newM 2 1
def fM2 : Mm:=a9c fM1 1 0 5
def fM3 : Mm:=a9c fM2 2 0 5
def fM4 : Mm:=a9c fM3 3 0 5
def fM5 : Mm:=letM fM3 1
def fM6 : Mm:=a9c fM5 4 0 6
theorem g2 : a9c fM1 1 0 5 = fM2:=rfl
theorem g3 : a9c fM2 2 0 5 = fM3:=rfl
theorem g4 : a9c fM3 3 0 5 = fM4:=rfl
theorem g5 : letM fM3 1 = fM5:=rfl
theorem g6 : a9c fM5 4 0 6 = fM6:=rfl
theorem f2 : b6v fM1 1 0 5 = 0/\b2f fM1 1 0 5 = 0:=by decide
theorem f3 : b6v fM2 2 0 5 = 1/\b2f fM2 2 0 5 = 0:=by decide
theorem f4 : b6v fM3 3 0 5 = 0/\b2f fM3 3 0 5 = 7:=by decide
theorem f5 : letE fM3 1 = 0:=by decide
theorem f6 : b6v fM5 4 0 6 = 1/\b2f fM5 4 0 6 = 0:=by decide
end
section
open Go.ChangeShapes Go.WideShapes Go.ChangeAt Go.RowKit Go.Joins Go.Maps
structure KRow (w : World) (ao : Option Addr) (cap : Nat) (l : List (Int × Int)) : Prop where
  le : l.length<=cap
  max : l.length * 16<=140737488351232
  nil : ao = none->cap = 0
  at_ : l.length = 0\/∃ b o,ao = some ⟨b,o,none⟩/\∀ i (h : i < l.length),w.cell? ⟨b,o + i * 2,none⟩ = some (Vi Qi l[i].1)/\w.cell? ⟨b,o + i * 2 + 1,none⟩ = some (Vi Qi l[i].2)
theorem KRow.below {w w' : World} {ao : Option Addr} {cap : Nat} {l : List (Int × Int)} (r : KRow w ao cap l) (hb : Below w.heap.size w w') : KRow w' ao cap l:=by
  refine ⟨r.le,r.max,r.nil,?_⟩
  rcases r.at_ with h | ⟨b,o,h,hc⟩
  · exact .inl h
  · refine .inr ⟨b,o,h,fun i hi => ?_⟩
    obtain ⟨c0,c1⟩:=hc i hi
    have lt:=a0m c0
    obtain ⟨q,_⟩:=a1z hb
    exact ⟨(q _ _ lt).trans c0,(q _ _ lt).trans c1⟩
theorem a7m (w : World) : KRow w none 0 []:=⟨by decide,by decide,fun _ => rfl,.inl rfl⟩
def encK (l : List (Int × Int)) : List Value:=l.flatMap fun p => [Vi Qi p.1,Vi Qi p.2]
theorem b3v (p : Int × Int) (l : List (Int × Int)) : encK (p :: l) = [Vi Qi p.1,Vi Qi p.2] ++ encK l:=by simp [encK]
theorem a9i (l : List (Int × Int)) : (encK l).length = l.length * 2:=by
  induction l with
  | nil => rfl
  | cons s l ih => rw [b3v,List.length_append,ih]; simp; omega
theorem b6b (l : List (Int × Int)) (i q : Nat) (h : i < l.length) (hq : q < 2) : (encK l)[i * 2 + q]? = ([Vi Qi l[i].1,Vi Qi l[i].2] : List Value)[q]?:=by
  induction l generalizing i with
  | nil => simp at h
  | cons s l ih =>
    rw [b3v]
    match i with
    | 0 =>
      rw [List.getElem?_append_left (by simp; omega)]
      simp
    | i + 1 =>
      rw [List.getElem?_append_right (by simp; omega)]
      rw [show ([Vi Qi s.1,Vi Qi s.2] : List Value).length = 2 from rfl,show (i + 1) * 2 + q - 2 = i * 2 + q by omega,ih i (by simpa using h)]
      simp
theorem encK_one (l : List (Int × Int)) : ∀ u ∈ encK l,u.oneCell' = true:=by
  intro u hu
  simp only [encK,List.mem_flatMap,List.mem_cons,List.not_mem_nil,or_false] at hu
  obtain ⟨s,_,h | h⟩:=hu <;> (subst h; rfl)
theorem KRow.src {w : World} {ao : Option Addr} {cap : Nat} {l : List (Int × Int)} (r : KRow w ao cap l) : ∀ ad,ao = some ad->∀ j u,(encK l)[j]? = some u->w.cell? (ad.add j) = some u:=by
  rintro ad rfl j u hu
  have hj : j < l.length * 2:=by
    rw [<- a9i]
    exact (List.getElem?_eq_some_iff.1 hu).1
  rcases r.at_ with h0 | ⟨b,o,e,hc⟩
  · omega
  cases e
  have hi : j / 2 < l.length:=by omega
  have e2 : j / 2 * 2 + j % 2 = j:=by omega
  have hq : j % 2 < 2:=by omega
  obtain ⟨c0,c1⟩:=hc (j / 2) hi
  rw [<- e2,b6b l _ _ hi hq] at hu
  rw [Addr.add_lit,<- e2]
  generalize j / 2 = i at *
  generalize j % 2 = q at *
  rw [<- Nat.add_assoc]
  match q,hq with
  | 0,_ => simp at hu; subst hu; exact c0
  | 1,_ => simp at hu; subst hu; exact c1
theorem KRow.own {w : World} {lo n cap : Nat} {ao : Option Addr} {l : List (Int × Int)} (h : w.ownsRow lo 30 2 (Vs ao n cap) n (encK l)) (hm : l.length * 16<=140737488351232) : KRow w ao cap l:=by
  have hl:=h.1
  rw [a9i] at hl
  have hn : l.length = n:=by omega
  subst hn
  rcases h.2 with ⟨hv,h0⟩ | ⟨g,cap',cur,hv,hg,hb,hc,-,hs,ht⟩
  · injection hv with h1 _ h3
    subst h1 h3
    exact ⟨by omega,hm,fun _ => rfl,.inl h0⟩
  · injection hv with h1 _ h3
    subst h1 h3
    refine ⟨hc,hm,(fun h => by cases h),.inr ⟨g,0,rfl,fun i hi => ?_⟩⟩
    have e : ∀ q,q < 2->w.cell? ⟨g,0 + i * 2 + q,none⟩ = ([Vi Qi l[i].1,Vi Qi l[i].2] : List Value)[q]?:=fun q hq => by
      rw [Nat.zero_add,h.cellAt _ (by omega),b6b l i q hi hq]
    exact ⟨e 0 (by omega),e 1 (by omega)⟩
theorem KRow.hi {w w' : World} {ao : Option Addr} {cap lo : Nat} {l : List (Int × Int)} (r : KRow w ao cap l) (hi : ∀ ad,ao = some ad->lo<=ad.block) (hk : ∀ k,lo<=k->w'.heap[k]? = w.heap[k]?) : KRow w' ao cap l:=by
  refine ⟨r.le,r.max,r.nil,?_⟩
  rcases r.at_ with h | ⟨b,o,h,hc⟩
  · exact .inl h
  · refine .inr ⟨b,o,h,fun i hi' => ?_⟩
    have hb:=hk b (hi _ h)
    rw [World.cell?_of_block (a:=⟨b,o + i * 2,none⟩) hb,World.cell?_of_block (a:=⟨b,o + i * 2 + 1,none⟩) hb]
    exact hc i hi'
theorem iK : (Tryz.prog.info? 30).map (fun i => (i.zero,i.size,i.bytes)) = some (some (.agg #[Vi Qi 0,Vi Qi 0]),2,16):=by kernel_rfl
set_option maxHeartbeats 800000 in
theorem b1v (ad : Addr) (cap : Nat) (l : List (Int × Int)) (w : World) (r : KRow w (some ad) cap l) :
    Calls Tryz.prog 104 #[Vs (some ad) l.length cap] w fun e w' => e = .returned (Vs (some ⟨w.heap.size,0,none⟩) l.length l.length)/\w'.ownsRow w.heap.size 30 2 (Vs (some ⟨w.heap.size,0,none⟩) l.length l.length) l.length (encK l)/\Below w.heap.size w w':=by
  obtain ⟨i0,hi,hz0,hz1,hz2⟩:=info_parts iK
  have m1:=r.max
  have m2:=r.le
  have HS : Hid _:=r.src
  have HN : Hid _:=r.nil
  clear r
  have q49 : ∀ (w : World) (a : Option Addr) (n c : Nat),(binOp .eql 45 (Vs a n c) (Vs none 0 0)).run Tryz.prog w = .ok (.bool a.isNone) w:=fun w a n c => Lib.run_eql_slice_nil w _ _ a n c 0 0 Tryz.underlying45
  go_enter Tryz.func104,Tryz.ntmps104
  go_wp2_with (first
    | (at_make; refine wpList_make_own _ rfl _ _ 45 rfl w.heap.size 30 i0 (.agg #[Vi Qi 0,Vi Qi 0]) 2 Tryz.underlying45 hi hz0 hz1 .i64 .i64 _ l.length rfl rfl rfl (by rw [hz2]; omega) (by unfold maxLen; omega) (Nat.le_refl _) ?_; intro w1 hown hgrow)
    | (at_builtin; refine wpList_append_fits_any _ rfl _ _ 45 rfl w.heap.size 30 i0 2 Tryz.underlying45 hi hz1 w.heap.size 0 l.length _ rfl hown (some ad) l.length cap (encK l) rfl (a9i l) (fun h => by have:=HN.out h; omega) (fun ad h j u hj => hgrow.cell (HS.out ad h j u hj) (by intro hh; cases hh)) (encK_one l) (by omega) ?_; intro w2 hown2 hgrow2))
  go_ret
  simp only [Nat.zero_add,List.nil_append] at hown2
  refine ⟨by simp,hown2,?_⟩
  have:=((Below.refl w.heap.size w).grown hgrow (Nat.le_refl _) (fun k h => by cases h))
  exact this.grown hgrow2 hgrow.size (fun k h => by cases h; exact Nat.le_refl _)
theorem b1u (w : World) : Calls Tryz.prog 104 #[Vs none 0 0] w fun e w' => e = .returned (Vs none 0 0)/\w = w':=by
  have q49 : ∀ (w : World) (a : Option Addr) (n c : Nat),(binOp .eql 45 (Vs a n c) (Vs none 0 0)).run Tryz.prog w = .ok (.bool a.isNone) w:=fun w a n c => Lib.run_eql_slice_nil w _ _ a n c 0 0 Tryz.underlying45
  go_enter Tryz.func104,Tryz.ntmps104
  go_wp2
  go_ret
  exact ⟨rfl,rfl⟩
theorem c0t (ao : Option Addr) (cap : Nat) (l : List (Int × Int)) (w : World) (r : KRow w ao cap l) :
    Calls Tryz.prog 104 #[Vs ao l.length cap] w fun e w' => ∃ a c,e = .returned (Vs a l.length c)/\KRow w' a c l/\(∀ ad,a = some ad->w.heap.size<=ad.block)/\Below w.heap.size w w':=by
  cases ao with
  | some ad =>
    refine (b1v ad cap l w r).mono ?_
    rintro e w' ⟨rfl,h1,h2⟩
    exact ⟨_,_,rfl,KRow.own h1 r.max,hi_some (Nat.le_refl _),h2⟩
  | none =>
    have hc:=r.nil rfl
    have hl : l = []:=List.eq_nil_of_length_eq_zero (by have:=r.le; omega)
    subst hc hl
    refine (b1u w).mono ?_
    rintro e w' ⟨rfl,rfl⟩
    exact ⟨_,_,rfl,a7m _,(fun _ h => by cases h),Below.refl _ _⟩
theorem b0s (c : Cl) (w : World) : Calls Tryz.prog 144 #[.agg #[Vi Qi c.kind,Vi Qi c.a,Vi Qi c.b,Vi Qi c.time,Vi Qi c.bk,Vi Qi c.slot]] w fun e w' => e = .returned (.agg #[Vi Qi (newF c).c.kind,Vi Qi (newF c).c.a,Vi Qi (newF c).c.b,Vi Qi (newF c).c.time,Vi Qi (newF c).c.bk,Vi Qi (newF c).c.slot,Vi Qi (newF c).pl,Vi Qi (newF c).cur,Vi Qi (newF c).prev,Vi Qi (newF c).slot,Vi Qi (newF c).n,Vs none (newF c).keys.length 0,.bool (newF c).done,Vi Qi (newF c).e])/\Below w.heap.size w w':=by
  go_enter Tryz.func144,Tryz.ntmps144
  go_wp2
  refine bodyPost_ret (v:=.agg #[Vi Qi (newF c).c.kind,Vi Qi (newF c).c.a,Vi Qi (newF c).c.b,Vi Qi (newF c).c.time,Vi Qi (newF c).c.bk,Vi Qi (newF c).c.slot,Vi Qi (newF c).pl,Vi Qi (newF c).cur,Vi Qi (newF c).prev,Vi Qi (newF c).slot,Vi Qi (newF c).n,Vs none (newF c).keys.length 0,.bool (newF c).done,Vi Qi (newF c).e]) (by simp [results,Tryz.results144,go_sem,newF]) rfl ⟨rfl,?_⟩
  repeat (first | exact Below.refl _ _ | refine Below.alloc ?_ (by simp <;> omega) _ | refine Below.setCell ?_ (by simp <;> omega) _)
set_option maxHeartbeats 3200000 in
theorem a6l (f : Fr) (e0 : Int) (aK : Option Addr) (cK : Nat) (w : World) (r : KRow w aK cK f.keys) :
    Calls Tryz.prog 199 #[.agg #[Vi Qi f.c.kind,Vi Qi f.c.a,Vi Qi f.c.b,Vi Qi f.c.time,Vi Qi f.c.bk,Vi Qi f.c.slot,Vi Qi f.pl,Vi Qi f.cur,Vi Qi f.prev,Vi Qi f.slot,Vi Qi f.n,Vs aK f.keys.length cK,.bool f.done,Vi Qi f.e],Vi Qi e0] w fun e w' => ∃ a c,e = .returned (.agg #[Vi Qi (endF f e0).c.kind,Vi Qi (endF f e0).c.a,Vi Qi (endF f e0).c.b,Vi Qi (endF f e0).c.time,Vi Qi (endF f e0).c.bk,Vi Qi (endF f e0).c.slot,Vi Qi (endF f e0).pl,Vi Qi (endF f e0).cur,Vi Qi (endF f e0).prev,Vi Qi (endF f e0).slot,Vi Qi (endF f e0).n,Vs a (endF f e0).keys.length c,.bool (endF f e0).done,Vi Qi (endF f e0).e])/\KRow w' a c f.keys/\(∀ ad,a = some ad->w.heap.size<=ad.block)/\Below w.heap.size w w':=by
  obtain ⟨of,hof⟩:=frObj f aK cK
  obtain ⟨oz,hoz⟩ : ∃ o : Obj,o = .cells #[Vi Qi 0,Vi Qi 0,Vi Qi 0,Vi Qi 0,Vi Qi 0,Vi Qi 0,Vi Qi 0,Vi Qi 0,Vi Qi 0,Vi Qi 0,Vi Qi 0,Vs none 0 0,.bool false,Vi Qi 0] 47:=⟨_,rfl⟩
  have HE0 : Hid (Env w ((w.alloc of).alloc oz) _ []):=((⟨Below.refl _ _,(fun p hp => by cases hp),(fun p hp => by cases hp)⟩ : Env w w [] []).alloc of).alloc oz
  rw [show (w.alloc of).heap.size = w.heap.size + 1 by simp] at HE0
  have HR : Hid (KRow w aK cK f.keys):=r
  clear r
  go_enter Tryz.func199,Tryz.ntmps199
  go_wp2_with fail
  rw [<- hof,<- hoz]
  generalize (w.alloc of).alloc oz = W0 at *
  subst hof hoz
  refine (c0t aK cK f.keys W0 (HR.out.below HE0.out.bl)).mono ?_
  rintro e w1 ⟨a1,c1,rfl,hr1,hi1,hb1⟩
  have HE1 : Hid _:=HE0.out.below hb1
  have HR1 : Hid (KRow w1 a1 c1 f.keys):=hr1
  have HHi : Hid (∀ ad,a1 = some ad->w.heap.size + 2<=ad.block):=fun ad h => Nat.le_trans (HE0.out.lt (.head _)) (hi1 ad h)
  clear HE0 hb1 hr1 hi1
  have hbz:=HE1.out.box _ (.head _)
  have hbf:=HE1.out.box _ (.tail _ (.head _))
  obtain ⟨f0,f1,f2,f3,f4,f5,f6,f7,f8,f9,f10,f11,f12,f13,ff,fs⟩:=a0a hbf
  obtain ⟨g0,g1,g2,g3,g4,g5,g6,g7,g8,g9,g10,g11,g12,g13,gf,gs⟩:=a0a hbz
  have hne : w.heap.size + 1 ≠ w.heap.size:=by omega
  have HBl : Hid (Below w.heap.size w w1):=HE1.out.bl
  clear hbz hbf HE1
  go_wp2
  refine bodyPost_ret (v:=.agg #[Vi Qi (endF f e0).c.kind,Vi Qi (endF f e0).c.a,Vi Qi (endF f e0).c.b,Vi Qi (endF f e0).c.time,Vi Qi (endF f e0).c.bk,Vi Qi (endF f e0).c.slot,Vi Qi (endF f e0).pl,Vi Qi (endF f e0).cur,Vi Qi (endF f e0).prev,Vi Qi (endF f e0).slot,Vi Qi (endF f e0).n,Vs a1 (endF f e0).keys.length c1,.bool (endF f e0).done,Vi Qi (endF f e0).e]) (by simp [results,Tryz.results199,go_sem,endF,g0,g1,g2,g3,g4,g5,g6,g7,g8,g9,g10,g11,g12,g13]) rfl ⟨a1,c1,rfl,HR1.out.hi HHi.out (fun k hk => ?_),(fun ad h => Nat.le_trans (Nat.le_add_right _ 2) (HHi.out ad h)),?_⟩
  · repeat rw [Below.heap_setCell _ _ _ _ (by dsimp only; omega)]
  · iterate 17 (refine Below.setCell ?_ (by dsimp only; omega) _)
    exact HBl.out
theorem b4t (a b : Int) (n : Nat) (w : World) (hk : keyB a b = true) (hn : n < 1\/4 < n) (hm : n<=9223372036854775807) :
    Calls Tryz.prog 49 #[.agg #[Vi Qi a,Vi Qi b],Vi Qi n] w fun e w' => e = .returned (.tuple #[Vi Qi 0,Vi Qi 3])/\Below w.heap.size w w':=by
  have HK : Hid (keyB a b = true):=hk
  clear hk
  rcases hn with h | h
  · obtain rfl : n = 0:=by omega
    go_enter Tryz.func49,Tryz.ntmps49
    go_wp2_with (first | (go_at_call 96; refine (a7l _ _ _ HK.out).mono ?_; rintro e w1 ⟨rfl,hb1⟩))
    go_ret2
    exact ⟨rfl,((Below.refl _ _).alloc (Nat.le_refl _) _).trans (hb1.mono (by simp))⟩
  · have h1 : (1 : Int)<=n:=by omega
    have h4 : (4 : Int) < n:=by omega
    go_enter Tryz.func49,Tryz.ntmps49
    go_wp2_with (first | (go_at_call 96; refine (a7l _ _ _ HK.out).mono ?_; rintro e w1 ⟨rfl,hb1⟩))
    go_ret2
    exact ⟨rfl,((Below.refl _ _).alloc (Nat.le_refl _) _).trans (hb1.mono (by simp))⟩
def bkK (a b : Int) (n : Nat) : Int:=if keyB a b then (if 1<=n/\n<=4 then a2z a b n else 0) else 0
theorem b7d (a b : Int) (n : Nat) (w : World) (hm : n<=9223372036854775807) :
    Calls Tryz.prog 49 #[.agg #[Vi Qi a,Vi Qi b],Vi Qi n] w fun e w' => ∃ x : Int,e = .returned (.tuple #[Vi Qi (bkK a b n),Vi Qi x])/\Below w.heap.size w w':=by
  cases hk : keyB a b
  · refine (b7e a b n w hk).mono ?_
    rintro e w1 ⟨rfl,hb⟩
    exact ⟨3,by unfold bkK; rw [hk]; rfl,hb⟩
  · by_cases hn : 1<=n/\n<=4
    · refine (b3j a b n w hk hn.1 hn.2).mono ?_
      rintro e w1 ⟨rfl,hb⟩
      exact ⟨0,by unfold bkK; rw [hk,if_pos rfl,if_pos hn],hb⟩
    · refine (b4t a b n w hk (by omega) hm).mono ?_
      rintro e w1 ⟨rfl,hb⟩
      exact ⟨3,by unfold bkK; rw [hk,if_pos rfl,if_neg hn],hb⟩
theorem b5u {nH : Nat} {c : Cl} (h : c.kind = 4\/c.kind = 5) : bkOf nH c = c.bk:=by unfold bkOf; rw [if_pos h]
theorem bkOf_key {nH : Nat} {c : Cl} (h : ¬ (c.kind = 4\/c.kind = 5)) : bkOf nH c = bkK c.a c.b nH:=by unfold bkOf bkK; rw [if_neg h]
theorem a0x (aS aH aF aL : Option Addr) (nS nH nF nL cS cH cF cL : Nat) (now : Int) (c : Cl) (w : World) (hh : nH<=9223372036854775807) :
    Calls Tryz.prog 34 #[.agg #[Vs aS nS cS,Vs aH nH cH,Vs aF nF cF,Vs aL nL cL,Vi Qi now],.agg #[Vi Qi c.kind,Vi Qi c.a,Vi Qi c.b,Vi Qi c.time,Vi Qi c.bk,Vi Qi c.slot]] w fun e w' => e = .returned (Vi Qi (bkOf nH c))/\Below w.heap.size w w':=by
  have b0 : Below w.heap.size w ((w.alloc (.cells #[Vs aS nS cS,Vs aH nH cH,Vs aF nF cF,Vs aL nL cL,Vi Qi now] 25)).alloc (.cells #[Vi Qi c.kind,Vi Qi c.a,Vi Qi c.b,Vi Qi c.time,Vi Qi c.bk,Vi Qi c.slot] 32)):=below_alloc2 w _ _
  have hc:=fun W => b7d c.a c.b nH W hh
  obtain ⟨E0,hE0⟩ : ∃ x,x = bkOf nH c:=⟨_,rfl⟩
  rw [<- hE0]
  have HE0 : Hid (E0 = bkOf nH c):=hE0
  clear hE0
  by_cases h4 : c.kind = 4
  · have HV : Hid (E0 = c.bk):=HE0.out.trans (b5u (.inl h4))
    rw [h4] at b0 ⊢
    go_enter Tryz.func34,Tryz.ntmps34
    go_wp2
    go_ret
    exact ⟨by rw [HV.out]; rfl,b0⟩
  by_cases h5 : c.kind = 5
  · have HV : Hid (E0 = c.bk):=HE0.out.trans (b5u (.inr h5))
    rw [h5] at b0 ⊢
    go_enter Tryz.func34,Tryz.ntmps34
    go_wp2
    go_ret
    exact ⟨by rw [HV.out]; rfl,b0⟩
  have e4 : (c.kind == 4) = false:=by rw [beq_eq_false_iff_ne]; exact h4
  have e5 : (c.kind == 5) = false:=by rw [beq_eq_false_iff_ne]; exact h5
  have HV : Hid (E0 = bkK c.a c.b nH):=HE0.out.trans (bkOf_key (by omega))
  generalize bkK c.a c.b nH = bv at *
  clear h4 h5 HE0
  go_enter Tryz.func34,Tryz.ntmps34
  go_wp2_with (go_at_call 49; refine (hc _).mono ?_; rintro e w1 ⟨x1,rfl,hb1⟩)
  go_ret
  exact ⟨by rw [HV.out]; rfl,b0.trans (hb1.mono b0.size)⟩
end
end Go.Proofs.YthhgoenomehobaaGreat.mm
