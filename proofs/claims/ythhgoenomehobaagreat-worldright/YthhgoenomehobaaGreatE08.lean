/- Parts. -/
import Derived.Test.YthhgoenomehobaaGreatE03
import Derived.Test.YthhgoenomehobaaGreatE07
import Derived.Test.YthhgoenomehobaaGreatE05
namespace Go.Proofs.YthhgoenomehobaaGreat.mm
set_option maxRecDepth 100000
set_option linter.unusedVariables false
open Go.Value renaming int → Vi, slice → Vs
open Go.IntKind renaming i64 → Qi
section
open Go.ChangeShapes Go.WideShapes Go.ChangeAt Go.RowKit Go.Joins
variable {Xb : Ex}
theorem KRow.fine {w w' : World} {Z : Nat->Prop} {ao : Option Addr} {cap : Nat} {l : List (Int × Int)} (r : KRow w ao cap l) (hf : Fine w w' Z) (hz : ∀ ad,ao = some ad->¬ Z ad.block) : KRow w' ao cap l:=by
  refine ⟨r.le,r.max,r.nil,?_⟩
  rcases r.at_ with h | ⟨b,o,e,hc⟩
  · exact .inl h
  · refine .inr ⟨b,o,e,fun i hi => ?_⟩
    have hb : b < w.heap.size:=by
      have:=(hc i hi).1
      exact a0m this
    have q : ∀ x,w'.cell? ⟨b,x,none⟩ = w.cell? ⟨b,x,none⟩:=fun x => World.cell?_of_block (a:=⟨b,x,none⟩) (hf.block b hb (hz _ e))
    rw [q,q]
    exact hc i hi
theorem a0z (f : Fr) (n : Int) (aK : Option Addr) (cK : Nat) (w : World) :
    Calls Tryz.prog 171 #[.agg #[Vi Qi f.c.kind,Vi Qi f.c.a,Vi Qi f.c.b,Vi Qi f.c.time,Vi Qi f.c.bk,Vi Qi f.c.slot,Vi Qi f.pl,Vi Qi f.cur,Vi Qi f.prev,Vi Qi f.slot,Vi Qi f.n,Vs aK f.keys.length cK,.bool f.done,Vi Qi f.e],Vi Qi n] w fun e w' => e = .returned (.agg #[Vi Qi (toF f n).c.kind,Vi Qi (toF f n).c.a,Vi Qi (toF f n).c.b,Vi Qi (toF f n).c.time,Vi Qi (toF f n).c.bk,Vi Qi (toF f n).c.slot,Vi Qi (toF f n).pl,Vi Qi (toF f n).cur,Vi Qi (toF f n).prev,Vi Qi (toF f n).slot,Vi Qi (toF f n).n,Vs aK (toF f n).keys.length cK,.bool (toF f n).done,Vi Qi (toF f n).e])/\Below w.heap.size w w':=by
  go_enter Tryz.func171,Tryz.ntmps171
  go_wp2
  refine bodyPost_ret (v:=.agg #[Vi Qi (toF f n).c.kind,Vi Qi (toF f n).c.a,Vi Qi (toF f n).c.b,Vi Qi (toF f n).c.time,Vi Qi (toF f n).c.bk,Vi Qi (toF f n).c.slot,Vi Qi (toF f n).pl,Vi Qi (toF f n).cur,Vi Qi (toF f n).prev,Vi Qi (toF f n).slot,Vi Qi (toF f n).n,Vs aK (toF f n).keys.length cK,.bool (toF f n).done,Vi Qi (toF f n).e]) (by simp [results,Tryz.results171,go_sem,toF]) rfl ⟨rfl,?_⟩
  repeat (first | exact Below.refl _ _ | refine Below.alloc ?_ (by simp <;> omega) _ | refine Below.setCell ?_ (by simp <;> omega) _)
def stN (f : Fr) : Int:=if f.cur<=0 then 0 else f.cur - 1
theorem a0o (M : Mm) (f : Fr) (B : Nat) (aS aH aF aL : Option Addr) (cS cH cF cL : Nat) (aK : Option Addr) (cK : Nat) (w : World)
    (hB : w.heap[B]? = some (.cells (List.toArray (Vs aS M.slots.length cS :: Vs aH M.heads.length cH :: Vs aF M.free.length cF :: Vs aL M.a0b.length cL :: Vi Qi M.now :: Xb.rs)) Xb.rt (0,0)))
    (hc : f.cur<=1000) (hn : M.slots.length<=1000) :
    Calls Tryz.prog 200 #[.pointer (some ⟨B,0,none⟩),.agg #[Vi Qi f.c.kind,Vi Qi f.c.a,Vi Qi f.c.b,Vi Qi f.c.time,Vi Qi f.c.bk,Vi Qi f.c.slot,Vi Qi f.pl,Vi Qi f.cur,Vi Qi f.prev,Vi Qi f.slot,Vi Qi f.n,Vs aK f.keys.length cK,.bool f.done,Vi Qi f.e]] w fun e w' => e = .returned (.tuple #[Vi Qi (stN f),.bool (isAt M f)])/\Below w.heap.size w w':=by
  obtain ⟨q0,q1,q2,q3,q4,-,-,-,-,-,qs⟩:=boxf hB
  clear hB
  by_cases h : f.cur<=0
  · have e1 : stN f = 0:=by unfold stN; rw [if_pos h]
    have e2 : isAt M f = false:=by
      cases hx : isAt M f
      · rfl
      · rw [a1l] at hx; omega
    rw [e1,e2]
    go_enter Tryz.func200,Tryz.ntmps200
    go_wp2_with (go_at_call 140; refine (a7w _ _ h).mono ?_; rintro e w1 ⟨rfl,rfl⟩)
    go_ret2
    exact ⟨rfl,a0c _ _⟩
  · have h' : 0 < f.cur:=by omega
    have e1 : stN f = f.cur - 1:=by unfold stN; rw [if_neg h]
    have e2 : isAt M f = inB (f.cur - 1) 0 ((M.slots.length : Int) - 1):=by
      rw [Bool.eq_iff_iff,a1l,a0h]
      omega
    rw [e1,e2]
    have HS : Hid (∀ W : World,Calls Tryz.prog 111 #[.agg #[Vs aS M.slots.length cS,Vs aH M.heads.length cH,Vs aF M.free.length cF,Vs aL M.a0b.length cL,Vi Qi M.now],Vi Qi (f.cur - 1)] W fun e w' => e = .returned (.bool (inB (f.cur - 1) 0 ((M.slots.length : Int) - 1)))/\Below W.heap.size W w'):=fun W => a2m aS aH aF aL _ _ _ _ cS cH cF cL M.now (f.cur - 1) W (by omega)
    generalize inB (f.cur - 1) 0 ((M.slots.length : Int) - 1) = r at *
    clear e1 e2 hn
    go_enter Tryz.func200,Tryz.ntmps200
    go_wp2_with (first | (go_at_call 140; refine (a7v _ _ h' hc).mono ?_; rintro e w1 ⟨rfl,rfl⟩) | (go_at_call 111; refine (HS.out _).mono ?_; rintro e w2 ⟨rfl,hb2⟩))
    go_ret2
    exact ⟨rfl,(a0c _ _).trans (hb2.mono (by simp))⟩
end
section
open Go.ChangeShapes Go.WideShapes Go.ChangeAt Go.RowKit Go.Joins
variable {Xb : Ex}
def a0e : Obj:=.cells #[Vi Qi 0,Vi Qi 0,Vi Qi 0,Vi Qi 0,Vi Qi 0,Vi Qi 0,Vi Qi 0,Vi Qi 0,Vi Qi 0,Vi Qi 0,Vi Qi 0,Vs none 0 0,.bool false,Vi Qi 0] 47
structure Lk (Xb : Ex) (w w1 : World) (B lo : Nat) (aS aH aF aL : Option Addr) (cS cH cF cL : Nat) (M : Mm) (f : Fr) (aK : Option Addr) (cK : Nat) : Prop where
  bl : Below w.heap.size w w1
  m : Mine Xb w1 B lo aS aH aF aL cS cH cF cL M
  lt : ∀ k,Foot B aS aH aF aL k->k < w.heap.size
  fb : w1.heap[w.heap.size]? = some (.cells #[Vi Qi f.c.kind,Vi Qi f.c.a,Vi Qi f.c.b,Vi Qi f.c.time,Vi Qi f.c.bk,Vi Qi f.c.slot,Vi Qi f.pl,Vi Qi f.cur,Vi Qi f.prev,Vi Qi f.slot,Vi Qi f.n,Vs aK f.keys.length cK,.bool f.done,Vi Qi f.e] 47 (0,0))
  zb : w1.heap[w.heap.size + 1]? = some a0e
theorem foot_lt {w : World} {B lo : Nat} {aS aH aF aL : Option Addr} {cS cH cF cL : Nat} {M : Mm} (m : Mine Xb w B lo aS aH aF aL cS cH cF cL M) : ∀ k,Foot B aS aH aF aL k->k < w.heap.size:=by
  rintro k (rfl | ⟨ad,rfl,rfl⟩ | ⟨ad,rfl,rfl⟩ | ⟨ad,rfl,rfl⟩ | ⟨ad,rfl,rfl⟩)
  · exact lt_of_block m.box
  · exact (m.c.s.lt _ rfl).2
  · exact (m.c.h.lt _ rfl).2
  · exact (m.c.f.lt _ rfl).2
  · exact (m.c.l.lt _ rfl).2
section
variable {w w1 w2 : World} {B lo : Nat} {aS aH aF aL : Option Addr} {cS cH cF cL : Nat} {M : Mm} {f : Fr} {aK : Option Addr} {cK : Nat}
theorem Lk.below (h : Lk Xb w w1 B lo aS aH aF aL cS cH cF cL M f aK cK) (hb : Below w1.heap.size w1 w2) : Lk Xb w w2 B lo aS aH aF aL cS cH cF cL M f aK cK :=
  ⟨h.bl.trans (hb.mono h.bl.size),h.m.below hb,h.lt,(hb.block _ (lt_of_block h.fb)).trans h.fb,(hb.block _ (lt_of_block h.zb)).trans h.zb⟩
theorem Lk.first (m : Mine Xb w B lo aS aH aF aL cS cH cF cL M) (f : Fr) (aK : Option Addr) (cK : Nat) {o oz : Obj} (ho : o = .cells #[Vi Qi f.c.kind,Vi Qi f.c.a,Vi Qi f.c.b,Vi Qi f.c.time,Vi Qi f.c.bk,Vi Qi f.c.slot,Vi Qi f.pl,Vi Qi f.cur,Vi Qi f.prev,Vi Qi f.slot,Vi Qi f.n,Vs aK f.keys.length cK,.bool f.done,Vi Qi f.e] 47) (hz : oz = a0e) : Lk Xb w ((w.alloc o).alloc oz) B lo aS aH aF aL cS cH cF cL M f aK cK:=by
  subst ho hz
  have h2:=below_alloc2 w (.cells #[Vi Qi f.c.kind,Vi Qi f.c.a,Vi Qi f.c.b,Vi Qi f.c.time,Vi Qi f.c.bk,Vi Qi f.c.slot,Vi Qi f.pl,Vi Qi f.cur,Vi Qi f.prev,Vi Qi f.slot,Vi Qi f.n,Vs aK f.keys.length cK,.bool f.done,Vi Qi f.e] 47) a0e
  refine ⟨h2,m.below h2,foot_lt m,?_,?_⟩
  · rw [Below.heap_alloc _ _ _ (by simp)]; exact heap_alloc_new w _
  · have:=heap_alloc_new (w.alloc (.cells #[Vi Qi f.c.kind,Vi Qi f.c.a,Vi Qi f.c.b,Vi Qi f.c.time,Vi Qi f.c.bk,Vi Qi f.c.slot,Vi Qi f.pl,Vi Qi f.cur,Vi Qi f.prev,Vi Qi f.slot,Vi Qi f.n,Vs aK f.keys.length cK,.bool f.done,Vi Qi f.e] 47)) a0e
    simpa using this
theorem Lk.store (h : Lk Xb w w1 B lo aS aH aF aL cS cH cF cL M f aK cK) (j : Nat) (v : Value) (g : Fr) (hg : (#[Vi Qi f.c.kind,Vi Qi f.c.a,Vi Qi f.c.b,Vi Qi f.c.time,Vi Qi f.c.bk,Vi Qi f.c.slot,Vi Qi f.pl,Vi Qi f.cur,Vi Qi f.prev,Vi Qi f.slot,Vi Qi f.n,Vs aK f.keys.length cK,.bool f.done,Vi Qi f.e] : Array Value).setIfInBounds j v = #[Vi Qi g.c.kind,Vi Qi g.c.a,Vi Qi g.c.b,Vi Qi g.c.time,Vi Qi g.c.bk,Vi Qi g.c.slot,Vi Qi g.pl,Vi Qi g.cur,Vi Qi g.prev,Vi Qi g.slot,Vi Qi g.n,Vs aK g.keys.length cK,.bool g.done,Vi Qi g.e]) :
    Lk Xb w (w1.setCell ⟨w.heap.size,j,none⟩ v) B lo aS aH aF aL cS cH cF cL M g aK cK:=by
  refine ⟨h.bl.setCell (by simp) _,h.m.same (by simp) (fun k _ hk => ?_),h.lt,?_,by rw [Below.heap_setCell _ _ _ _ (by dsimp only; omega)]; exact h.zb⟩
  · have:=h.lt k hk
    rw [Below.heap_setCell _ _ _ _ (by dsimp only; omega)]
  · rw [block_setCell h.fb v,hg]
end
theorem a3h {w w1 : World} {n : Nat} {v0 v1 v2 v3 v4 v5 v6 v7 v8 v9 v10 v11 v12 v13 : Value} (h : Below n w w1) : Below n w ((((((((((((((w1.setCell ⟨n + 1,0,none⟩ v0).setCell ⟨n + 1,1,none⟩ v1).setCell ⟨n + 1,2,none⟩ v2).setCell ⟨n + 1,3,none⟩ v3).setCell ⟨n + 1,4,none⟩ v4).setCell ⟨n + 1,5,none⟩ v5).setCell ⟨n + 1,6,none⟩ v6).setCell ⟨n + 1,7,none⟩ v7).setCell ⟨n + 1,8,none⟩ v8).setCell ⟨n + 1,9,none⟩ v9).setCell ⟨n + 1,10,none⟩ v10).setCell ⟨n + 1,11,none⟩ v11).setCell ⟨n + 1,12,none⟩ v12).setCell ⟨n + 1,13,none⟩ v13):=by
  iterate 14 (refine Below.setCell ?_ (by dsimp only; omega) _)
  exact h
set_option maxHeartbeats 1600000 in
theorem b9b (M : Mm) (f : Fr) (B lo : Nat) (aS aH aF aL : Option Addr) (cS cH cF cL : Nat) (aK : Option Addr) (cK : Nat) (w : World)
    (m : Mine Xb w B lo aS aH aF aL cS cH cF cL M) (hM : Ok M) (hf : Fit M f) :
    Calls Tryz.prog 164 #[.pointer (some ⟨B,0,none⟩),.agg #[Vi Qi f.c.kind,Vi Qi f.c.a,Vi Qi f.c.b,Vi Qi f.c.time,Vi Qi f.c.bk,Vi Qi f.c.slot,Vi Qi f.pl,Vi Qi f.cur,Vi Qi f.prev,Vi Qi f.slot,Vi Qi f.n,Vs aK f.keys.length cK,.bool f.done,Vi Qi f.e]] w fun e w' => e = .returned (.agg #[Vi Qi (a2b M f).c.kind,Vi Qi (a2b M f).c.a,Vi Qi (a2b M f).c.b,Vi Qi (a2b M f).c.time,Vi Qi (a2b M f).c.bk,Vi Qi (a2b M f).c.slot,Vi Qi (a2b M f).pl,Vi Qi (a2b M f).cur,Vi Qi (a2b M f).prev,Vi Qi (a2b M f).slot,Vi Qi (a2b M f).n,Vs aK (a2b M f).keys.length cK,.bool (a2b M f).done,Vi Qi (a2b M f).e])/\Below w.heap.size w w':=by
  obtain ⟨b0,b1⟩:=a2d hM hf.call
  obtain ⟨b,hb⟩ : ∃ b : Nat,bkOf M.heads.length f.c = b:=⟨_,(Int.toNat_of_nonneg b0).symm⟩
  have hbl : b < M.heads.length:=by omega
  have hnh:=hM.nh.2
  obtain ⟨gH,rfl,oH,lH,-,-⟩:=a1b m.c.h (by omega)
  obtain ⟨x,hx⟩ : ∃ x,x = M.heads[b]:=⟨_,rfl⟩
  have hhd : a0v M (bkOf M.heads.length f.c).toNat = x:=by rw [hb,hx]; simp [a0v,List.getD_eq_getElem?_getD,hbl]
  have hres : a2b M f = curF f x 1:=by unfold a2b; rw [hhd]
  rw [hres]
  have HX : Hid (∀ W,Mine Xb W B lo aS (some ⟨gH,0,none⟩) aF aL cS cH cF cL M->W.cell? ⟨gH,b,none⟩ = some (Vi Qi x)):=fun W m' => by rw [hx]; exact (a4u m'.c.h hbl).1
  have HBk : Hid (∀ W : World,Calls Tryz.prog 34 #[.agg #[Vs aS M.slots.length cS,Vs (some ⟨gH,0,none⟩) M.heads.length cH,Vs aF M.free.length cF,Vs aL M.a0b.length cL,Vi Qi M.now],.agg #[Vi Qi f.c.kind,Vi Qi f.c.a,Vi Qi f.c.b,Vi Qi f.c.time,Vi Qi f.c.bk,Vi Qi f.c.slot]] W fun e w' => e = .returned (Vi Qi (b : Int))/\Below W.heap.size W w'):=fun W => hb ▸ a0x aS _ aF aL _ _ _ _ cS cH cF cL M.now f.c W (by omega)
  have HCh : Hid (∀ W : World,Calls Tryz.prog 97 #[.agg #[Vs aS M.slots.length cS,Vs (some ⟨gH,0,none⟩) M.heads.length cH,Vs aF M.free.length cF,Vs aL M.a0b.length cL,Vi Qi M.now],Vi Qi (b : Int)] W fun e w' => e = .returned (.bool true)/\Below W.heap.size W w'):=fun W => (show inB (b : Int) 0 ((M.heads.length : Int) - 1) = true from (a0h _ _ _).2 (by omega)) ▸ a3e aS _ aF aL _ _ _ _ cS cH cF cL M.now (b : Int) W (by omega)
  obtain ⟨of,hof⟩:=frObj f aK cK
  obtain ⟨oz,hoz⟩ : ∃ o : Obj,o = a0e:=⟨_,rfl⟩
  have HE : Hid (Lk Xb w ((w.alloc of).alloc oz) B lo aS (some ⟨gH,0,none⟩) aF aL cS cH cF cL M f aK cK):=Lk.first m f aK cK hof hoz
  obtain ⟨q0,q1,q2,q3,q4,-,-,-,-,-,qs⟩:=boxf HE.out.m.box
  obtain ⟨f0,f1,f2,f3,f4,f5,f6,f7,f8,f9,f10,f11,f12,f13,ff,fs⟩:=a0a HE.out.fb
  unfold a0e at hoz
  clear hx hhd hres hb b0 b1 hM hf m oH lH
  go_enter Tryz.func164,Tryz.ntmps164
  go_wp2_with fail
  rw [<- hof,<- hoz]
  generalize (w.alloc of).alloc oz = W0 at *
  subst hof hoz
  go_region_with (go_at_call 34; refine (HBk.out _).mono ?_; rintro e w1 ⟨rfl,hb1⟩; have HB1 : Hid (Below W0.heap.size W0 w1):=⟨hb1.os,hb1.tape,hb1.output,hb1.size,hb1.block⟩; clear hb1)
  all_goals
    have HE1 : Hid (Lk Xb w w1 B lo aS (some ⟨gH,0,none⟩) aF aL cS cH cF cL M f aK cK):=HE.out.below HB1.out
    clear HB1 HE q0 q1 q2 q3 q4 qs f0 f1 f2 f3 f4 f5 f6 f7 f8 f9 f10 f11 f12 f13 ff fs
    obtain ⟨q0,q1,q2,q3,q4,-,-,-,-,-,qs⟩:=boxf HE1.out.m.box
    go_wp2_with fail
    refine (HCh.out w1).mono ?_
    rintro e w2 ⟨rfl,hb2⟩
    have HE2 : Hid (Lk Xb w w2 B lo aS (some ⟨gH,0,none⟩) aF aL cS cH cF cL M f aK cK):=HE1.out.below hb2
    clear HE1 hb2 q0 q1 q2 q3 q4 qs
    obtain ⟨q0,q1,q2,q3,q4,-,-,-,-,-,qs⟩:=boxf HE2.out.m.box
    obtain ⟨f0,f1,f2,f3,f4,f5,f6,f7,f8,f9,f10,f11,f12,f13,ff,fs⟩:=a0a HE2.out.fb
    have hc:=HX.out w2 HE2.out.m
    go_wp2_with fail
    have HE3 : Hid (Lk Xb w _ B lo aS (some ⟨gH,0,none⟩) aF aL cS cH cF cL M { f with cur:=x } aK cK):=HE2.out.store 7 (Vi Qi x) { f with cur:=x } rfl
    clear q0 q1 q2 q3 q4 qs f0 f1 f2 f3 f4 f5 f6 f7 f8 f9 f10 f11 f12 f13 ff fs hc HE2
    refine (a0z { f with cur:=x } 1 aK cK _).mono ?_
    rintro e w3 ⟨rfl,hb3⟩
    have HE4 : Hid _:=HE3.out.below hb3
    clear HE3 hb3
    obtain ⟨g0,g1,g2,g3,g4,g5,g6,g7,g8,g9,g10,g11,g12,g13,gf,gs⟩:=a0a HE4.out.zb
    go_wp2
    refine bodyPost_ret (v:=.agg #[Vi Qi (curF f x 1).c.kind,Vi Qi (curF f x 1).c.a,Vi Qi (curF f x 1).c.b,Vi Qi (curF f x 1).c.time,Vi Qi (curF f x 1).c.bk,Vi Qi (curF f x 1).c.slot,Vi Qi (curF f x 1).pl,Vi Qi (curF f x 1).cur,Vi Qi (curF f x 1).prev,Vi Qi (curF f x 1).slot,Vi Qi (curF f x 1).n,Vs aK (curF f x 1).keys.length cK,.bool (curF f x 1).done,Vi Qi (curF f x 1).e]) (by simp [results,Tryz.results164,go_sem,curF,toF,g0,g1,g2,g3,g4,g5,g6,g7,g8,g9,g10,g11,g12,g13]) rfl ⟨rfl,?_⟩
    refine a3h ?_
    exact HE4.out.bl
end
section
open Go.ChangeShapes Go.WideShapes Go.ChangeAt Go.RowKit Go.Joins
variable {Xb : Ex}
theorem a0i {w : World} {lo gS n cap : Nat} {M : Mm} (h : w.ownsRow lo 64 6 (Vs (some ⟨gS,0,none⟩) n cap) n (encS M.slots)) {j : Nat} (hj : j < M.slots.length) {s : Sl} (hs : s = a0d M j) :
    w.cell? ⟨gS,j * 6,none⟩ = some (Vi Qi s.refs)/\w.cell? ⟨gS,j * 6 + 1,none⟩ = some (Vi Qi s.a)/\w.cell? ⟨gS,j * 6 + 2,none⟩ = some (Vi Qi s.b) /\
    w.cell? ⟨gS,j * 6 + 3,none⟩ = some (Vi Qi s.unt)/\w.cell? ⟨gS,j * 6 + 4,none⟩ = some (.bool s.inn)/\w.cell? ⟨gS,j * 6 + 5,none⟩ = some (Vi Qi s.next)/\∀ q,w.frozen? ⟨gS,q,none⟩ = false:=by
  have e : s = M.slots[j]:=by rw [hs]; simp [a0d,List.getD_eq_getElem?_getD,hj]
  rw [e]
  exact a3c h hj
set_option maxHeartbeats 1600000 in
theorem pass_any (M : Mm) (f : Fr) (B lo : Nat) (aS aH aF aL : Option Addr) (cS cH cF cL : Nat) (aK : Option Addr) (cK : Nat) (w : World)
    (m : Mine Xb w B lo aS aH aF aL cS cH cF cL M) (hM : Ok M) (hf : Fit M f) :
    Calls Tryz.prog 166 #[.pointer (some ⟨B,0,none⟩),.agg #[Vi Qi f.c.kind,Vi Qi f.c.a,Vi Qi f.c.b,Vi Qi f.c.time,Vi Qi f.c.bk,Vi Qi f.c.slot,Vi Qi f.pl,Vi Qi f.cur,Vi Qi f.prev,Vi Qi f.slot,Vi Qi f.n,Vs aK f.keys.length cK,.bool f.done,Vi Qi f.e]] w fun e w' => e = .returned (.agg #[Vi Qi (a2s M f).c.kind,Vi Qi (a2s M f).c.a,Vi Qi (a2s M f).c.b,Vi Qi (a2s M f).c.time,Vi Qi (a2s M f).c.bk,Vi Qi (a2s M f).c.slot,Vi Qi (a2s M f).pl,Vi Qi (a2s M f).cur,Vi Qi (a2s M f).prev,Vi Qi (a2s M f).slot,Vi Qi (a2s M f).n,Vs aK (a2s M f).keys.length cK,.bool (a2s M f).done,Vi Qi (a2s M f).e])/\Below w.heap.size w w':=by
  have hns:=hM.ns
  have hcur:=hf.cur.2
  have hc1 : f.cur<=1000:=by omega
  have hn1 : M.slots.length<=1000:=by omega
  by_cases hat : isAt M f = true
  · have h1:=a1l.1 hat
    obtain ⟨j,hj⟩ : ∃ j : Nat,f.cur - 1 = j:=⟨(f.cur - 1).toNat,by omega⟩
    have hjl : j < M.slots.length:=by omega
    obtain ⟨gS,rfl,oS,lS,kS,-⟩:=a1b m.c.s (by omega)
    obtain ⟨s,hs⟩ : ∃ s,s = a0d M (j : Int):=⟨_,rfl⟩
    have hst : stN f = j:=by unfold stN; rw [if_neg (by omega)]; exact hj
    have hres : a2s M f = curF f s.next 1:=by unfold a2s; rw [if_pos hat,hj,<- hs]
    rw [hres]
    have HSt : Hid (∀ (W : World),Mine Xb W B lo (some ⟨gS,0,none⟩) aH aF aL cS cH cF cL M->Calls Tryz.prog 200 #[.pointer (some ⟨B,0,none⟩),.agg #[Vi Qi f.c.kind,Vi Qi f.c.a,Vi Qi f.c.b,Vi Qi f.c.time,Vi Qi f.c.bk,Vi Qi f.c.slot,Vi Qi f.pl,Vi Qi f.cur,Vi Qi f.prev,Vi Qi f.slot,Vi Qi f.n,Vs aK f.keys.length cK,.bool f.done,Vi Qi f.e]] W fun e w' => e = .returned (.tuple #[Vi Qi (j : Int),.bool true])/\Below W.heap.size W w'):=fun W m' => by
      have:=a0o M f B _ aH aF aL cS cH cF cL aK cK W m'.box hc1 hn1
      rwa [hst,hat] at this
    have HX : Hid (∀ W,Mine Xb W B lo (some ⟨gS,0,none⟩) aH aF aL cS cH cF cL M->W.cell? ⟨gS,j * 6 + 5,none⟩ = some (Vi Qi s.next)):=fun W m' => (a0i m'.c.s hjl hs).2.2.2.2.2.1
    obtain ⟨of,hof⟩:=frObj f aK cK
    obtain ⟨oz,hoz⟩ : ∃ o : Obj,o = a0e:=⟨_,rfl⟩
    have HE : Hid (Lk Xb w ((w.alloc of).alloc oz) B lo (some ⟨gS,0,none⟩) aH aF aL cS cH cF cL M f aK cK):=Lk.first m f aK cK hof hoz
    obtain ⟨q0,q1,q2,q3,q4,-,-,-,-,-,qs⟩:=boxf HE.out.m.box
    obtain ⟨f0,f1,f2,f3,f4,f5,f6,f7,f8,f9,f10,f11,f12,f13,ff,fs⟩:=a0a HE.out.fb
    unfold a0e at hoz
    clear m hres hs hst hat h1 hc1 hn1 hcur hns hM hf
    go_enter Tryz.func166,Tryz.ntmps166
    go_wp2_with fail
    rw [<- hof,<- hoz]
    generalize (w.alloc of).alloc oz = W0 at *
    subst hof hoz
    refine (HSt.out W0 HE.out.m).mono ?_
    rintro e w1 ⟨rfl,hb1⟩
    have HE1 : Hid (Lk Xb w w1 B lo (some ⟨gS,0,none⟩) aH aF aL cS cH cF cL M f aK cK):=HE.out.below hb1
    clear HE hb1
    clear q0 q1 q2 q3 q4 qs f0 f1 f2 f3 f4 f5 f6 f7 f8 f9 f10 f11 f12 f13 ff fs
    obtain ⟨q0,q1,q2,q3,q4,-,-,-,-,-,qs⟩:=boxf HE1.out.m.box
    obtain ⟨f0,f1,f2,f3,f4,f5,f6,f7,f8,f9,f10,f11,f12,f13,ff,fs⟩:=a0a HE1.out.fb
    have hx:=HX.out w1 HE1.out.m
    go_wp2_with fail
    have HE2 : Hid (Lk Xb w _ B lo (some ⟨gS,0,none⟩) aH aF aL cS cH cF cL M { f with cur:=s.next } aK cK):=HE1.out.store 7 (Vi Qi s.next) { f with cur:=s.next } rfl
    clear HE1 hx
    refine (a0z { f with cur:=s.next } 1 aK cK _).mono ?_
    rintro e w9 ⟨rfl,hb9⟩
    have HE9 : Hid (Lk Xb w w9 B lo (some ⟨gS,0,none⟩) aH aF aL cS cH cF cL M { f with cur:=s.next } aK cK):=HE2.out.below hb9
    clear HE2 hb9
    clear q0 q1 q2 q3 q4 qs f0 f1 f2 f3 f4 f5 f6 f7 f8 f9 f10 f11 f12 f13 ff fs
    obtain ⟨g0,g1,g2,g3,g4,g5,g6,g7,g8,g9,g10,g11,g12,g13,gf,gs⟩:=a0a HE9.out.zb
    go_wp2
    refine bodyPost_ret (v:=.agg #[Vi Qi (curF f s.next 1).c.kind,Vi Qi (curF f s.next 1).c.a,Vi Qi (curF f s.next 1).c.b,Vi Qi (curF f s.next 1).c.time,Vi Qi (curF f s.next 1).c.bk,Vi Qi (curF f s.next 1).c.slot,Vi Qi (curF f s.next 1).pl,Vi Qi (curF f s.next 1).cur,Vi Qi (curF f s.next 1).prev,Vi Qi (curF f s.next 1).slot,Vi Qi (curF f s.next 1).n,Vs aK (curF f s.next 1).keys.length cK,.bool (curF f s.next 1).done,Vi Qi (curF f s.next 1).e]) (by simp [results,Tryz.results166,go_sem,curF,toF,g0,g1,g2,g3,g4,g5,g6,g7,g8,g9,g10,g11,g12,g13]) rfl ⟨rfl,?_⟩
    refine a3h ?_
    exact HE9.out.bl
  · have hat0 : isAt M f = false:=by simpa using hat
    have hres : a2s M f = toF f 0:=by unfold a2s; rw [if_neg hat]
    rw [hres]
    have HSt : Hid (∀ (W : World),Mine Xb W B lo aS aH aF aL cS cH cF cL M->Calls Tryz.prog 200 #[.pointer (some ⟨B,0,none⟩),.agg #[Vi Qi f.c.kind,Vi Qi f.c.a,Vi Qi f.c.b,Vi Qi f.c.time,Vi Qi f.c.bk,Vi Qi f.c.slot,Vi Qi f.pl,Vi Qi f.cur,Vi Qi f.prev,Vi Qi f.slot,Vi Qi f.n,Vs aK f.keys.length cK,.bool f.done,Vi Qi f.e]] W fun e w' => e = .returned (.tuple #[Vi Qi (stN f),.bool false])/\Below W.heap.size W w'):=fun W m' => by
      have:=a0o M f B _ aH aF aL cS cH cF cL aK cK W m'.box hc1 hn1
      rwa [hat0] at this
    obtain ⟨of,hof⟩:=frObj f aK cK
    obtain ⟨oz,hoz⟩ : ∃ o : Obj,o = a0e:=⟨_,rfl⟩
    have HE : Hid (Lk Xb w ((w.alloc of).alloc oz) B lo aS aH aF aL cS cH cF cL M f aK cK):=Lk.first m f aK cK hof hoz
    obtain ⟨q0,q1,q2,q3,q4,-,-,-,-,-,qs⟩:=boxf HE.out.m.box
    obtain ⟨f0,f1,f2,f3,f4,f5,f6,f7,f8,f9,f10,f11,f12,f13,ff,fs⟩:=a0a HE.out.fb
    unfold a0e at hoz
    clear m hres hat hat0 hc1 hn1 hcur hns hM hf
    go_enter Tryz.func166,Tryz.ntmps166
    go_wp2_with fail
    rw [<- hof,<- hoz]
    generalize (w.alloc of).alloc oz = W0 at *
    subst hof hoz
    refine (HSt.out W0 HE.out.m).mono ?_
    rintro e w1 ⟨rfl,hb1⟩
    have HE1 : Hid (Lk Xb w w1 B lo aS aH aF aL cS cH cF cL M f aK cK):=HE.out.below hb1
    clear HE hb1
    clear q0 q1 q2 q3 q4 qs f0 f1 f2 f3 f4 f5 f6 f7 f8 f9 f10 f11 f12 f13 ff fs
    obtain ⟨q0,q1,q2,q3,q4,-,-,-,-,-,qs⟩:=boxf HE1.out.m.box
    obtain ⟨f0,f1,f2,f3,f4,f5,f6,f7,f8,f9,f10,f11,f12,f13,ff,fs⟩:=a0a HE1.out.fb
    go_wp2_with fail
    refine (a0z f 0 aK cK _).mono ?_
    rintro e w9 ⟨rfl,hb9⟩
    have HE9 : Hid (Lk Xb w w9 B lo aS aH aF aL cS cH cF cL M f aK cK):=HE1.out.below hb9
    clear HE1 hb9
    clear q0 q1 q2 q3 q4 qs f0 f1 f2 f3 f4 f5 f6 f7 f8 f9 f10 f11 f12 f13 ff fs
    obtain ⟨g0,g1,g2,g3,g4,g5,g6,g7,g8,g9,g10,g11,g12,g13,gf,gs⟩:=a0a HE9.out.zb
    go_wp2
    refine bodyPost_ret (v:=.agg #[Vi Qi (toF f 0).c.kind,Vi Qi (toF f 0).c.a,Vi Qi (toF f 0).c.b,Vi Qi (toF f 0).c.time,Vi Qi (toF f 0).c.bk,Vi Qi (toF f 0).c.slot,Vi Qi (toF f 0).pl,Vi Qi (toF f 0).cur,Vi Qi (toF f 0).prev,Vi Qi (toF f 0).slot,Vi Qi (toF f 0).n,Vs aK (toF f 0).keys.length cK,.bool (toF f 0).done,Vi Qi (toF f 0).e]) (by simp [results,Tryz.results166,go_sem,toF,g0,g1,g2,g3,g4,g5,g6,g7,g8,g9,g10,g11,g12,g13]) rfl ⟨rfl,?_⟩
    refine a3h ?_
    exact HE9.out.bl
end
end Go.Proofs.YthhgoenomehobaaGreat.mm
