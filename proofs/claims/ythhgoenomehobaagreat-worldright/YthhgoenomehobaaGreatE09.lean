/- Parts. -/
import Derived.Test.YthhgoenomehobaaGreatE01
import Derived.Test.YthhgoenomehobaaGreatE08
import Derived.Test.YthhgoenomehobaaGreatE07
import Derived.Test.YthhgoenomehobaaGreatE05
import Derived.Test.YthhgoenomehobaaGreatE03
import Derived.Deep.RegionWith
import Derived.OrdersHeld
import Derived.Deep.Slices
import Derived.SizedLaws
import Derived.Carry
namespace Go.Proofs.YthhgoenomehobaaGreat.mm
set_option maxRecDepth 100000
set_option linter.unusedVariables false
open Go.Value renaming int → Vi, slice → Vs
open Go.IntKind renaming i64 → Qi
section
open Go.ChangeShapes Go.WideShapes Go.ChangeAt Go.RowKit Go.Joins
variable {Xb : Ex}
def run (nf : Mm->Fr->Fr) (nm : Mm->Fr->Mm) : Nat->Mm->Fr->Mm × Fr × Bool
  | 0,M,f => (M,f,false)
  | k + 1,M,f => if (nf M f).done then (nm M f,nf M f,true) else run nf nm k (nm M f) (nf M f)
section
variable {w w1 w2 : World} {Z : Nat->Prop} {B lo X : Nat} {M M' : Mm} {f : Fr} {a : Option Addr} {c : Nat}
end
end
section
open Go.ChangeShapes Go.WideShapes Go.ChangeAt Go.RowKit Go.Joins Go.Maps
variable {Xb : Ex}
def linkAt (M : Mm) (a : Nat) (b : Nat) : Mm:={ M with slots:=M.slots.set a { a0d M a with next:=a0v M b,inn:=true },heads:=M.heads.set b ((a : Int) + 1) }
theorem b9s (S : List Sl) (j : Nat) (h : j < S.length) (nx : Int) (i : Bool) : ((encS S).set (j * 6 + 5) (Vi Qi nx)).set (j * 6 + 4) (.bool i) = encS (S.set j { S[j] with next:=nx,inn:=i }):=by
  induction S generalizing j with
  | nil => simp at h
  | cons x S ih =>
    match j with
    | 0 => simp [a2g,Sl.enc]
    | j + 1 =>
      have:=ih j (by simpa using h)
      rw [List.set_cons_succ,a2g,a2g,List.getElem_cons_succ,<- this]
      simp only [Sl.enc,List.cons_append,List.nil_append,show (j + 1) * 6 + 5 = j * 6 + 5 + 6 by omega,show (j + 1) * 6 + 4 = j * 6 + 4 + 6 by omega,List.set_cons_succ]
theorem b3w (S : List Sl) (j : Nat) (h : j < S.length) (nx : Int) : (encS S).set (j * 6 + 5) (Vi Qi nx) = encS (S.set j { S[j] with next:=nx }):=by
  induction S generalizing j with
  | nil => simp at h
  | cons x S ih =>
    match j with
    | 0 => simp [a2g,Sl.enc]
    | j + 1 =>
      have:=ih j (by simpa using h)
      rw [List.set_cons_succ,a2g,a2g,List.getElem_cons_succ,<- this]
      simp only [Sl.enc,List.cons_append,List.nil_append,show (j + 1) * 6 + 5 = j * 6 + 5 + 6 by omega,List.set_cons_succ]
set_option maxHeartbeats 1600000 in
theorem link_in (w : World) (B gS gH nS nH j b cS cH : Nat) (fv lv nv : Value) (x nx : Int) (i : Bool)
    (hB : w.heap[B]? = some (.cells (List.toArray (Vs (some ⟨gS,0,none⟩) nS cS :: Vs (some ⟨gH,0,none⟩) nH cH :: fv :: lv :: nv :: Xb.rs)) Xb.rt (0,0))) (hj : j < nS) (hb : b < nH) (hn : nS<=12) (hh : nH<=4) (d1 : B ≠ gS) (d2 : gS ≠ gH) (d3 : B ≠ gH) (l1 : gS < w.heap.size) (l2 : gH < w.heap.size)
    (c4 : w.cell? ⟨gS,j * 6 + 4,none⟩ = some (.bool i)) (c5 : w.cell? ⟨gS,j * 6 + 5,none⟩ = some (Vi Qi nx)) (fz : ∀ q,w.frozen? ⟨gS,q,none⟩ = false) (ch : w.cell? ⟨gH,b,none⟩ = some (Vi Qi x)) (fh : w.frozen? ⟨gH,b,none⟩ = false) :
    Calls Tryz.prog 206 #[.pointer (some ⟨B,0,none⟩),Vi Qi b,Vi Qi j] w fun e w' => e = .returned (.tuple #[]) /\
      w' = (((w.setCell ⟨gS,j * 6 + 5,none⟩ (Vi Qi x)).setCell ⟨gS,j * 6 + 4,none⟩ (.bool true)).setCell ⟨gH,b,none⟩ (Vi Qi ((j : Int) + 1))).drew:=by
  obtain ⟨q0,q1,q2,q3,q4,-,-,-,-,-,qs⟩:=boxf hB
  clear hB
  go_enter Tryz.func206,Tryz.ntmps206
  go_wp2
  go_region_with (go_at_call 214; refine (b8r _ _ (by omega) (by omega)).mono ?_; rintro e w1 ⟨rfl,rfl⟩)
  all_goals go_wp2
  all_goals go_end0
  all_goals exact ⟨rfl,rfl⟩
end
section
open Go
theorem b4x {l : List Nat} {p q : Nat->Bool} (hq : ∀ j,q j = true->p j = true) : (l.filter q).length<=(l.filter p).length:=by
  induction l with
  | nil => simp
  | cons x l ih =>
    simp only [List.filter_cons]
    by_cases h : q x = true
    · rw [if_pos h,if_pos (hq x h)]
      simp only [List.length_cons]
      omega
    · rw [if_neg h]
      split
      · simp only [List.length_cons]; omega
      · exact ih
theorem filter_lt {l : List Nat} {p q : Nat->Bool} {i : Nat} (hi : i ∈ l) (hp : p i = true) (hqi : q i = false) (hq : ∀ j,q j = true->p j = true) : (l.filter q).length < (l.filter p).length:=by
  induction l with
  | nil => cases hi
  | cons x l ih =>
    simp only [List.filter_cons]
    by_cases e : x = i
    · subst e
      rw [if_pos hp,if_neg (by rw [hqi]; simp)]
      have:=b4x (l:=l) hq
      simp only [List.length_cons]
      omega
    · have hm : i ∈ l:=by
        rcases List.mem_cons.1 hi with h | h
        · exact absurd h.symm e
        · exact h
      have:=ih hm
      by_cases h : q x = true
      · rw [if_pos h,if_pos (hq x h)]
        simp only [List.length_cons]
        omega
      · rw [if_neg h]
        split
        · simp only [List.length_cons]; omega
        · exact this
def unl (ops : Array Oper) (listed : Array Bool) : Nat:=((List.range ops.size).filter fun i => !listed.getD i true).length
theorem a5b {md : Region.Mode} {ops : Array Oper} {listed : Array Bool} {i : Nat} (h : i ∈ Region.ready md ops listed) :
    i < ops.size/\listed.getD i true = false/\∃ o,ops[i]? = some o/\∀ e ∈ o.after,Region.binds md e = true->listed.getD e.on false = true:=by
  unfold Region.ready at h
  rw [List.mem_filter] at h
  obtain ⟨h1,h2⟩:=h
  rw [Bool.and_eq_true] at h2
  refine ⟨by simpa using h1,by simpa using h2.1,?_⟩
  cases ho : ops[i]? with
  | none => rw [ho] at h2; simp at h2
  | some o =>
    rw [ho] at h2
    refine ⟨o,rfl,fun e he hb => ?_⟩
    have h3:=h2.2
    simp only [Option.map_some,Option.getD_some] at h3
    rw [Array.all_eq_true'] at h3
    have:=h3 e he
    rw [hb] at this
    simpa using this
theorem b4r {P : Program} {md : Region.Mode} {ops : Array Oper} {Q : Exit->Act->World->Prop} (J : Array Bool->Act->World->Prop)
    (step : ∀ listed a w i,i ∈ Region.ready md ops listed->J listed a w->wpOp P ops Q i (fun a' w' => J (listed.setIfInBounds i true) a' w') a w)
    (fin : ∀ listed a w,Region.ready md ops listed = []->J listed a w->Q .normal a w) :
    ∀ (fuel : Nat) (listed : Array Bool) (a : Act) (w : World),unl ops listed<=fuel->listed.size = ops.size->J listed a w->wpAny P md ops Q fuel listed a w
  | 0,listed,a,w,hf,hs,hJ => by
    have hr : Region.ready md ops listed = []:=by
      cases hr : Region.ready md ops listed with
      | nil => rfl
      | cons i r =>
        have hi : i ∈ Region.ready md ops listed:=by rw [hr]; simp
        obtain ⟨h1,h2,_⟩:=a5b hi
        have : i ∈ (List.range ops.size).filter fun i => !listed.getD i true:=by
          rw [List.mem_filter]
          exact ⟨by simpa using h1,by rw [h2]; rfl⟩
        unfold unl at hf
        have hz : ((List.range ops.size).filter fun i => !listed.getD i true) = []:=List.eq_nil_of_length_eq_zero (by omega)
        rw [hz] at this
        cases this
    exact ⟨hr,fin listed a w hr hJ⟩
  | fuel + 1,listed,a,w,hf,hs,hJ => by
    refine ⟨fun hr => fin listed a w hr hJ,fun i hi => ?_⟩
    obtain ⟨h1,h2,_⟩:=a5b hi
    refine wpOp_mono (fun a' w' hJ' => ?_) (step listed a w i hi hJ)
    refine b4r J step fin fuel _ a' w' ?_ (by simpa using hs) hJ'
    have hlt : unl ops (listed.setIfInBounds i true) < unl ops listed:=by
      unfold unl
      refine filter_lt (i:=i) (by simpa using h1) (by rw [h2]; rfl) ?_ ?_
      · simp [Array.getD_eq_getD_getElem?,hs,h1]
      · intro j hj
        by_cases e : i = j
        · subst e
          rw [h2]; rfl
        · simpa [Array.getD_eq_getD_getElem?,Array.getElem?_setIfInBounds,e] using hj
    omega
theorem a8e {P : Program} {ops : Array Oper} {Q : Exit->Act->World->Prop} {id : Nat} {a : Act} {w : World} (hm : P.follows .mixedOrders = true) (J : Array Bool->Act->World->Prop)
    (start : J (Array.replicate ops.size false) a { w with drawn:=w.drawn + 1 })
    (step : ∀ listed a w i,i ∈ Region.ready .any ops listed->J listed a w->wpOp P ops Q i (fun a' w' => J (listed.setIfInBounds i true) a' w') a w)
    (fin : ∀ listed a w,Region.ready .any ops listed = []->J listed a w->Q .normal a w) : (Code.region id ops true).wp P Q a w:=by
  refine wp_region_any hm (b4r J step fin _ _ a _ ?_ (by simp) start)
  unfold unl
  exact Nat.le_trans (List.length_filter_le _ _) (by simp)
end
section
theorem a4c {G : Prop} (a : Go.Act) (R : Go.Act->Prop) (h : R a->G) (t : R a) : G:=h t
end
section
open Go.ChangeShapes Go.WideShapes Go.ChangeAt Go.RowKit Go.Joins Go.Maps
variable {Xb : Ex}
set_option maxHeartbeats 800000 in
theorem b9k (w : World) (B gS gH nS nH j b cS cH : Nat) (fv lv nv : Value) (x nx ah : Int)
    (hB : w.heap[B]? = some (.cells (List.toArray (Vs (some ⟨gS,0,none⟩) nS cS :: Vs (some ⟨gH,0,none⟩) nH cH :: fv :: lv :: nv :: Xb.rs)) Xb.rt (0,0))) (hj : j < nS) (hb : b < nH) (hn : nS<=12) (hh : nH<=4) (ha : ah<=0)
    (c5 : w.cell? ⟨gS,j * 6 + 5,none⟩ = some (Vi Qi nx)) (ch : w.cell? ⟨gH,b,none⟩ = some (Vi Qi x)) (fh : w.frozen? ⟨gH,b,none⟩ = false) :
    Calls Tryz.prog 216 #[.pointer (some ⟨B,0,none⟩),Vi Qi b,Vi Qi ah,Vi Qi j] w fun e w' => e = .returned (.tuple #[])/\w' = w.setCell ⟨gH,b,none⟩ (Vi Qi nx):=by
  obtain ⟨q0,q1,q2,q3,q4,-,-,-,-,-,qs⟩:=boxf hB
  clear hB
  go_enter Tryz.func216,Tryz.ntmps216
  go_wp2_with (go_at_call 140; refine (a7w _ _ ha).mono ?_; rintro e w1 ⟨rfl,rfl⟩)
  go_end0
  exact ⟨rfl,rfl⟩
set_option maxHeartbeats 800000 in
theorem cut_mid (w : World) (B gS gH nS nH j b p cS cH : Nat) (fv lv nv : Value) (x nx px : Int)
    (hB : w.heap[B]? = some (.cells (List.toArray (Vs (some ⟨gS,0,none⟩) nS cS :: Vs (some ⟨gH,0,none⟩) nH cH :: fv :: lv :: nv :: Xb.rs)) Xb.rt (0,0))) (hj : j < nS) (hb : b < nH) (hn : nS<=12) (hh : nH<=4) (hp : p < nS)
    (c5 : w.cell? ⟨gS,j * 6 + 5,none⟩ = some (Vi Qi nx)) (d5 : w.cell? ⟨gS,p * 6 + 5,none⟩ = some (Vi Qi px)) (fz : w.frozen? ⟨gS,p * 6 + 5,none⟩ = false) (ch : w.cell? ⟨gH,b,none⟩ = some (Vi Qi x)) :
    Calls Tryz.prog 216 #[.pointer (some ⟨B,0,none⟩),Vi Qi b,Vi Qi ((p : Int) + 1),Vi Qi j] w fun e w' => e = .returned (.tuple #[])/\w' = w.setCell ⟨gS,p * 6 + 5,none⟩ (Vi Qi nx):=by
  obtain ⟨q0,q1,q2,q3,q4,-,-,-,-,-,qs⟩:=boxf hB
  clear hB
  go_enter Tryz.func216,Tryz.ntmps216
  go_wp2_with (go_at_call 140; refine (a7v _ _ (by omega) (by omega)).mono ?_; rw [show (p : Int) + 1 - 1 = p by omega]; rintro e w1 ⟨rfl,rfl⟩)
  go_end0
  exact ⟨rfl,rfl⟩
end
section
open Go.ChangeShapes Go.WideShapes Go.ChangeAt Go.RowKit Go.Joins Go.Deep
theorem own : ownKnob Tryz.prog.godebug = none:=by kernel_rfl
theorem cells3 : Tryz.prog.cellsOf 3 = 1:=by kernel_rfl
theorem cells4 : Tryz.prog.cellsOf 4 = 1:=by kernel_rfl
theorem cells37 : Tryz.prog.cellsOf 30 = 2:=by kernel_rfl
variable {H : Type} {enc : TypeId × Value->H} {w : World}
theorem b4p {P : Program} {base : Nat} {spare : Nat->Bool} {held : Bool} {t : TypeId} {f0 f1 f2 f3 f4 : Field} {fuel : Nat} {cs : List Value} {x : DataW H × List MemPlace} (ht : P.underlying t = some (.struct #[f0,f1,f2,f3,f4])) (h : DataW.trod enc P w base spare held fuel t cs = some x) :
    ∃ y0 y1 y2 y3 y4 n,x.1 = .agg [y0.1,y1.1,y2.1,y3.1,y4.1]/\cs.length = P.cellsOf t/\DataW.trod enc P w base spare held n f0.type ((cs.drop f0.offset).take (P.cellsOf f0.type)) = some y0 /\
      DataW.trod enc P w base spare held n f1.type ((cs.drop f1.offset).take (P.cellsOf f1.type)) = some y1/\DataW.trod enc P w base spare held n f2.type ((cs.drop f2.offset).take (P.cellsOf f2.type)) = some y2 /\
      DataW.trod enc P w base spare held n f3.type ((cs.drop f3.offset).take (P.cellsOf f3.type)) = some y3/\DataW.trod enc P w base spare held n f4.type ((cs.drop f4.offset).take (P.cellsOf f4.type)) = some y4:=by
  obtain ⟨xs,n,_,rfl,hl,hlen,hf⟩:=DataW.trod_struct ht h
  match xs,hlen with
  | [y0,y1,y2,y3,y4],_ => exact ⟨y0,y1,y2,y3,y4,n,by simp,hl,by simpa using hf 0 f0 rfl,by simpa using hf 1 f1 rfl,by simpa using hf 2 f2 rfl,by simpa using hf 3 f3 rfl,by simpa using hf 4 f4 rfl⟩
theorem six {cs : List Value} (h : cs.length = 6) : ∃ c0 c1 c2 c3 c4 c5,cs = [c0,c1,c2,c3,c4,c5]:=by
  match cs,h with
  | [c0,c1,c2,c3,c4,c5],_ => exact ⟨_,_,_,_,_,_,rfl⟩
end
section
open Go.ChangeShapes Go.WideShapes Go.ChangeAt Go.RowKit Go.Joins Go.Deep
theorem b3m : Tryz.prog.cellsOf 32 = 6:=by kernel_rfl
variable {H : Type} {enc : TypeId × Value->H} {w : World}
theorem c2p {fuel : Nat} {cs : List Value} {x : DataW H × List MemPlace} (h : DataW.trod enc Tryz.prog w 0 (fun _ => true) true fuel 32 cs = some x) :
    ∃ c : Cl,cs = [.int .i64 c.kind,.int .i64 c.a,.int .i64 c.b,.int .i64 c.time,.int .i64 c.bk,.int .i64 c.slot]:=by
  obtain ⟨y0,y1,y2,y3,y4,n,_,hl,h0,h1,h2,h3,h4⟩:=b4p Tryz.underlying32 h
  rw [b3m] at hl
  obtain ⟨c0,c1,c2,c3,c4,c5,rfl⟩:=six hl
  simp only [cells3,cells37] at h0 h1 h2 h3 h4
  obtain ⟨r,e0,_⟩:=DataW.trod_int Tryz.underlying3 h0
  obtain ⟨z0,z1,m,_,_,k0,k1⟩:=trod_struct2 Tryz.underlying30 h1
  simp only [cells3] at k0 k1
  obtain ⟨a,e1,_⟩:=DataW.trod_int Tryz.underlying3 k0
  obtain ⟨b,e2,_⟩:=DataW.trod_int Tryz.underlying3 k1
  obtain ⟨u,e3,_⟩:=DataW.trod_int Tryz.underlying3 h2
  obtain ⟨i,e4,_⟩:=DataW.trod_int Tryz.underlying3 h3
  obtain ⟨nx,e5,_⟩:=DataW.trod_int Tryz.underlying3 h4
  simp at e0 e1 e2 e3 e4 e5
  subst e0 e1 e2 e3 e4 e5
  exact ⟨⟨r,a,b,u,i,nx⟩,rfl⟩
end
end Go.Proofs.YthhgoenomehobaaGreat.mm
