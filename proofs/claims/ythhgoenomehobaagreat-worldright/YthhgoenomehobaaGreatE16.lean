/- Parts. -/
import Derived.Test.YthhgoenomehobaaGreatE14
import Derived.Deep.QuietTactic
import Derived.BigQuiet
import Derived.Lib.QuietBelow
namespace Go.Proofs.YthhgoenomehobaaGreat.mm
set_option maxRecDepth 100000
set_option linter.unusedVariables false
open Go.Value renaming int → Vi, slice → Vs
open Go.IntKind renaming i64 → Qi
section
open Go.ChangeShapes Go.WideShapes Go.ChangeAt Go.RowKit Go.Joins Go.Deep Go.Sort
variable {Xb : Ex}
def letF (M : Mm) (f : Fr) : Fr:=if isSl M f.slot then { f with slot:=-1 } else f
set_option maxHeartbeats 3200000 in
theorem a3x (M : Mm) (f : Fr) (B lo : Nat) (aS aH aF aL : Option Addr) (cS cH cF cL : Nat) (aK : Option Addr) (cK : Nat) (w : World)
    (m : Mine Xb w B lo aS aH aF aL cS cH cF cL M) (hM : Ok M) :
    Calls Tryz.prog 202 #[.pointer (some ⟨B,0,none⟩),.agg #[Vi Qi f.c.kind,Vi Qi f.c.a,Vi Qi f.c.b,Vi Qi f.c.time,Vi Qi f.c.bk,Vi Qi f.c.slot,Vi Qi f.pl,Vi Qi f.cur,Vi Qi f.prev,Vi Qi f.slot,Vi Qi f.n,Vs aK f.keys.length cK,.bool f.done,Vi Qi f.e]] w fun e w' => e = .returned (.tuple #[.agg #[Vi Qi (letF M f).c.kind,Vi Qi (letF M f).c.a,Vi Qi (letF M f).c.b,Vi Qi (letF M f).c.time,Vi Qi (letF M f).c.bk,Vi Qi (letF M f).c.slot,Vi Qi (letF M f).pl,Vi Qi (letF M f).cur,Vi Qi (letF M f).prev,Vi Qi (letF M f).slot,Vi Qi (letF M f).n,Vs aK (letF M f).keys.length cK,.bool (letF M f).done,Vi Qi (letF M f).e],.bool (isSl M f.slot)])/\Has Xb w' B lo (Up w (Foot B aS aH aF aL)) (a1f M f)/\Fine w w' (Foot B aS aH aF aL):=by
  have hns:=hM.ns
  have HHs : Hid (∀ W : World,Calls Tryz.prog 111 #[.agg #[Vs aS M.slots.length cS,Vs aH M.heads.length cH,Vs aF M.free.length cF,Vs aL M.a0b.length cL,Vi Qi M.now],Vi Qi f.slot] W fun e w' => e = .returned (.bool (isSl M f.slot))/\Below W.heap.size W w'):=fun W => a2m aS aH aF aL _ _ _ _ cS cH cF cL M.now f.slot W (by omega)
  cases hsl : isSl M f.slot
  · have hres : letF M f = f:=by unfold letF; rw [hsl]; rfl
    have hresM : a1f M f = M:=by unfold a1f; rw [hsl]; rfl
    rw [hres,hresM]
    rw [hsl] at HHs
    obtain ⟨of,hof⟩:=frObj f aK cK
    obtain ⟨oz,hoz⟩ : ∃ o : Obj,o = a0e:=⟨_,rfl⟩
    have HE : Hid (Lk Xb w ((w.alloc of).alloc oz) B lo aS aH aF aL cS cH cF cL M f aK cK):=Lk.first m f aK cK hof hoz
    obtain ⟨q0,q1,q2,q3,q4,-,-,-,-,-,qs⟩:=boxf HE.out.m.box
    obtain ⟨f0,f1,f2,f3,f4,f5,f6,f7,f8,f9,f10,f11,f12,f13,ff,fs⟩:=a0a HE.out.fb
    unfold a0e at hoz
    clear m hres hresM hsl hns hM
    go_enter Tryz.func202,Tryz.ntmps202
    go_wp2_with fail
    rw [<- hof,<- hoz]
    generalize (w.alloc of).alloc oz = W0 at *
    subst hof hoz
    have cB : ∀ (d : Nat) (os : Array Obj),Calls Tryz.prog 111 #[.agg #[Vs aS M.slots.length cS,Vs aH M.heads.length cH,Vs aF M.free.length cF,Vs aL M.a0b.length cL,Vi Qi M.now],Vi Qi f.slot] (grow (redrawn W0 d) os) fun e w'' => e = .returned (.bool false)/\∃ p : Regrown,w'' = grow (redrawn W0 p.d) p.os:=fun d os => Calls.regrown_of (HHs.out _)
    have Q0:=cell_regrown q0; have Q1:=cell_regrown q1; have Q2:=cell_regrown q2; have Q3:=cell_regrown q3; have Q4:=cell_regrown q4
    have F9:=cell_regrown f9
    clear q0 q1 q2 q3 q4 qs f0 f1 f2 f3 f4 f5 f6 f7 f8 f9 f10 f11 f12 f13 ff fs
    refine wp_region_quiet_below (by kernel_rfl) (by kernel_rfl) ?_
    repeat (quiet_step (first | exact cB _ _))
    refine wpQuiet_nil ?_
    intro _ hw'
    obtain ⟨⟨dq,osq⟩,hw''⟩:=hw'
    subst hw''
    have HB1 : Hid _:=below_regrown W0 dq osq
    generalize grow (redrawn W0 dq) osq = w1 at *
    clear cB Q0 Q1 Q2 Q3 Q4 F9
    have HE1 : Hid (Lk Xb w w1 B lo aS aH aF aL cS cH cF cL M f aK cK):=HE.out.below HB1.out
    clear HB1 HE
    obtain ⟨q0,q1,q2,q3,q4,-,-,-,-,-,qs⟩:=boxf HE1.out.m.box
    obtain ⟨f0,f1,f2,f3,f4,f5,f6,f7,f8,f9,f10,f11,f12,f13,ff,fs⟩:=a0a HE1.out.fb
    obtain ⟨g0,g1,g2,g3,g4,g5,g6,g7,g8,g9,g10,g11,g12,g13,gf,gs⟩:=a0a HE1.out.zb
    go_wp2
    refine bodyPost_ret (v:=.tuple #[.agg #[Vi Qi f.c.kind,Vi Qi f.c.a,Vi Qi f.c.b,Vi Qi f.c.time,Vi Qi f.c.bk,Vi Qi f.c.slot,Vi Qi f.pl,Vi Qi f.cur,Vi Qi f.prev,Vi Qi f.slot,Vi Qi f.n,Vs aK f.keys.length cK,.bool f.done,Vi Qi f.e],.bool false]) (by simp [results,Tryz.results202,go_sem,g0,g1,g2,g3,g4,g5,g6,g7,g8,g9,g10,g11,g12,g13]) rfl ⟨rfl,HE1.out.a0g⟩
  · have hres : letF M f = { f with slot:=-1 }:=by unfold letF; rw [hsl]; rfl
    have hresM : a1f M f = putN M f.slot:=by unfold a1f; rw [hsl]; rfl
    rw [hres,hresM]
    have HPt : Hid (∀ (W : World) (Z : Nat->Prop),Has Xb W B lo Z M->Calls Tryz.prog 197 #[.pointer (some ⟨B,0,none⟩),Vi Qi f.slot] W fun e w' => e = .returned (.bool (decide (a0s M f.slot ≠ 0)))/\Has Xb w' B lo (Up W Z) (putN M f.slot)/\Fine W w' Z):=fun W Z h => b6q h hM hsl
    generalize putN M f.slot = M' at *
    generalize decide (a0s M f.slot ≠ 0) = pr at *
    rw [hsl] at HHs
    obtain ⟨of,hof⟩:=frObj f aK cK
    obtain ⟨oz,hoz⟩ : ∃ o : Obj,o = a0e:=⟨_,rfl⟩
    have HE : Hid (Lk Xb w ((w.alloc of).alloc oz) B lo aS aH aF aL cS cH cF cL M f aK cK):=Lk.first m f aK cK hof hoz
    obtain ⟨q0,q1,q2,q3,q4,-,-,-,-,-,qs⟩:=boxf HE.out.m.box
    obtain ⟨f0,f1,f2,f3,f4,f5,f6,f7,f8,f9,f10,f11,f12,f13,ff,fs⟩:=a0a HE.out.fb
    unfold a0e at hoz
    clear m hres hresM hsl hns hM
    go_enter Tryz.func202,Tryz.ntmps202
    go_wp2_with fail
    rw [<- hof,<- hoz]
    generalize (w.alloc of).alloc oz = W0 at *
    subst hof hoz
    have cB : ∀ (d : Nat) (os : Array Obj),Calls Tryz.prog 111 #[.agg #[Vs aS M.slots.length cS,Vs aH M.heads.length cH,Vs aF M.free.length cF,Vs aL M.a0b.length cL,Vi Qi M.now],Vi Qi f.slot] (grow (redrawn W0 d) os) fun e w'' => e = .returned (.bool true)/\∃ p : Regrown,w'' = grow (redrawn W0 p.d) p.os:=fun d os => Calls.regrown_of (HHs.out _)
    have Q0:=cell_regrown q0; have Q1:=cell_regrown q1; have Q2:=cell_regrown q2; have Q3:=cell_regrown q3; have Q4:=cell_regrown q4
    have F9:=cell_regrown f9
    clear q0 q1 q2 q3 q4 qs f0 f1 f2 f3 f4 f5 f6 f7 f8 f9 f10 f11 f12 f13 ff fs
    refine wp_region_quiet_below (by kernel_rfl) (by kernel_rfl) ?_
    repeat (quiet_step (first | exact cB _ _))
    refine wpQuiet_nil ?_
    intro _ hw'
    obtain ⟨⟨dq,osq⟩,hw''⟩:=hw'
    subst hw''
    have HB1 : Hid _:=below_regrown W0 dq osq
    generalize grow (redrawn W0 dq) osq = w1 at *
    clear cB Q0 Q1 Q2 Q3 Q4 F9
    have HE1 : Hid (Lk Xb w w1 B lo aS aH aF aL cS cH cF cL M f aK cK):=HE.out.below HB1.out
    clear HB1 HE
    obtain ⟨q0,q1,q2,q3,q4,-,-,-,-,-,qs⟩:=boxf HE1.out.m.box
    obtain ⟨f0,f1,f2,f3,f4,f5,f6,f7,f8,f9,f10,f11,f12,f13,ff,fs⟩:=a0a HE1.out.fb
    go_wp2_with fail
    refine (HPt.out w1 (Foot B aS aH aF aL) ⟨_,_,_,_,_,_,_,_,HE1.out.m,fun _ h => h⟩).mono ?_
    rintro e w2 ⟨rfl,hh2,hf2⟩
    have HE2 : Hid (Lk2 Xb w w2 (Foot B aS aH aF aL) B lo M' f aK cK):=HE1.out.after hh2 hf2
    clear HE1 hh2 hf2
    clear q0 q1 q2 q3 q4 qs f0 f1 f2 f3 f4 f5 f6 f7 f8 f9 f10 f11 f12 f13 ff fs
    obtain ⟨f0,f1,f2,f3,f4,f5,f6,f7,f8,f9,f10,f11,f12,f13,ff,fs⟩:=a0a HE2.out.fb
    obtain ⟨g0,g1,g2,g3,g4,g5,g6,g7,g8,g9,g10,g11,g12,g13,gf,gs⟩:=a0a HE2.out.zb
    have HE3 : Hid (Lk2 Xb w (w2.setCell ⟨w.heap.size,9,none⟩ (Vi Qi (-1))) (Foot B aS aH aF aL) B lo M' { f with slot:=-1 } aK cK):=HE2.out.store 9 (Vi Qi (-1)) { f with slot:=-1 } rfl
    clear HE2
    go_wp2
    refine bodyPost_ret (v:=.tuple #[.agg #[Vi Qi ({ f with slot:=-1 }).c.kind,Vi Qi ({ f with slot:=-1 }).c.a,Vi Qi ({ f with slot:=-1 }).c.b,Vi Qi ({ f with slot:=-1 }).c.time,Vi Qi ({ f with slot:=-1 }).c.bk,Vi Qi ({ f with slot:=-1 }).c.slot,Vi Qi ({ f with slot:=-1 }).pl,Vi Qi ({ f with slot:=-1 }).cur,Vi Qi ({ f with slot:=-1 }).prev,Vi Qi ({ f with slot:=-1 }).slot,Vi Qi ({ f with slot:=-1 }).n,Vs aK ({ f with slot:=-1 }).keys.length cK,.bool ({ f with slot:=-1 }).done,Vi Qi ({ f with slot:=-1 }).e],.bool true]) (by simp [results,Tryz.results202,go_sem,g0,g1,g2,g3,g4,g5,g6,g7,g8,g9,g10,g11,g12,g13]) rfl ⟨rfl,HE3.out.a0g⟩
theorem Lk2.all {w w1 : World} {Z : Nat->Prop} {B lo : Nat} {M : Mm} {f : Fr} {aK : Option Addr} {cK : Nat} (h : Lk2 Xb w w1 Z B lo M f aK cK) (g : Fr) :
    Lk2 Xb w ((((((((((((((w1.setCell ⟨w.heap.size,0,none⟩ (Vi Qi g.c.kind)).setCell ⟨w.heap.size,1,none⟩ (Vi Qi g.c.a)).setCell ⟨w.heap.size,2,none⟩ (Vi Qi g.c.b)).setCell ⟨w.heap.size,3,none⟩ (Vi Qi g.c.time)).setCell ⟨w.heap.size,4,none⟩ (Vi Qi g.c.bk)).setCell ⟨w.heap.size,5,none⟩ (Vi Qi g.c.slot)).setCell ⟨w.heap.size,6,none⟩ (Vi Qi g.pl)).setCell ⟨w.heap.size,7,none⟩ (Vi Qi g.cur)).setCell ⟨w.heap.size,8,none⟩ (Vi Qi g.prev)).setCell ⟨w.heap.size,9,none⟩ (Vi Qi g.slot)).setCell ⟨w.heap.size,10,none⟩ (Vi Qi g.n)).setCell ⟨w.heap.size,11,none⟩ (Vs aK g.keys.length cK)).setCell ⟨w.heap.size,12,none⟩ (.bool g.done)).setCell ⟨w.heap.size,13,none⟩ (Vi Qi g.e)) Z B lo M g aK cK :=
  ((((((((((((((h).store 0 (Vi Qi g.c.kind) ⟨⟨g.c.kind,f.c.a,f.c.b,f.c.time,f.c.bk,f.c.slot⟩,f.pl,f.cur,f.prev,f.slot,f.n,f.keys,f.done,f.e⟩ rfl).store 1 (Vi Qi g.c.a) ⟨⟨g.c.kind,g.c.a,f.c.b,f.c.time,f.c.bk,f.c.slot⟩,f.pl,f.cur,f.prev,f.slot,f.n,f.keys,f.done,f.e⟩ rfl).store 2 (Vi Qi g.c.b) ⟨⟨g.c.kind,g.c.a,g.c.b,f.c.time,f.c.bk,f.c.slot⟩,f.pl,f.cur,f.prev,f.slot,f.n,f.keys,f.done,f.e⟩ rfl).store 3 (Vi Qi g.c.time) ⟨⟨g.c.kind,g.c.a,g.c.b,g.c.time,f.c.bk,f.c.slot⟩,f.pl,f.cur,f.prev,f.slot,f.n,f.keys,f.done,f.e⟩ rfl).store 4 (Vi Qi g.c.bk) ⟨⟨g.c.kind,g.c.a,g.c.b,g.c.time,g.c.bk,f.c.slot⟩,f.pl,f.cur,f.prev,f.slot,f.n,f.keys,f.done,f.e⟩ rfl).store 5 (Vi Qi g.c.slot) ⟨⟨g.c.kind,g.c.a,g.c.b,g.c.time,g.c.bk,g.c.slot⟩,f.pl,f.cur,f.prev,f.slot,f.n,f.keys,f.done,f.e⟩ rfl).store 6 (Vi Qi g.pl) ⟨⟨g.c.kind,g.c.a,g.c.b,g.c.time,g.c.bk,g.c.slot⟩,g.pl,f.cur,f.prev,f.slot,f.n,f.keys,f.done,f.e⟩ rfl).store 7 (Vi Qi g.cur) ⟨⟨g.c.kind,g.c.a,g.c.b,g.c.time,g.c.bk,g.c.slot⟩,g.pl,g.cur,f.prev,f.slot,f.n,f.keys,f.done,f.e⟩ rfl).store 8 (Vi Qi g.prev) ⟨⟨g.c.kind,g.c.a,g.c.b,g.c.time,g.c.bk,g.c.slot⟩,g.pl,g.cur,g.prev,f.slot,f.n,f.keys,f.done,f.e⟩ rfl).store 9 (Vi Qi g.slot) ⟨⟨g.c.kind,g.c.a,g.c.b,g.c.time,g.c.bk,g.c.slot⟩,g.pl,g.cur,g.prev,g.slot,f.n,f.keys,f.done,f.e⟩ rfl).store 10 (Vi Qi g.n) ⟨⟨g.c.kind,g.c.a,g.c.b,g.c.time,g.c.bk,g.c.slot⟩,g.pl,g.cur,g.prev,g.slot,g.n,f.keys,f.done,f.e⟩ rfl).store 11 (Vs aK g.keys.length cK) ⟨⟨g.c.kind,g.c.a,g.c.b,g.c.time,g.c.bk,g.c.slot⟩,g.pl,g.cur,g.prev,g.slot,g.n,g.keys,f.done,f.e⟩ rfl).store 12 (.bool g.done) ⟨⟨g.c.kind,g.c.a,g.c.b,g.c.time,g.c.bk,g.c.slot⟩,g.pl,g.cur,g.prev,g.slot,g.n,g.keys,g.done,f.e⟩ rfl).store 13 (Vi Qi g.e) ⟨⟨g.c.kind,g.c.a,g.c.b,g.c.time,g.c.bk,g.c.slot⟩,g.pl,g.cur,g.prev,g.slot,g.n,g.keys,g.done,g.e⟩ rfl
set_option maxHeartbeats 3200000 in
theorem b8l (M : Mm) (f : Fr) (B lo : Nat) (aS aH aF aL : Option Addr) (cS cH cF cL : Nat) (aK : Option Addr) (cK : Nat) (w : World)
    (m : Mine Xb w B lo aS aH aF aL cS cH cF cL M) (hM : Ok M) (r : KRow w aK cK f.keys) (hz : ∀ ad,aK = some ad->¬ Foot B aS aH aF aL ad.block) :
    Calls Tryz.prog 169 #[.pointer (some ⟨B,0,none⟩),.agg #[Vi Qi f.c.kind,Vi Qi f.c.a,Vi Qi f.c.b,Vi Qi f.c.time,Vi Qi f.c.bk,Vi Qi f.c.slot,Vi Qi f.pl,Vi Qi f.cur,Vi Qi f.prev,Vi Qi f.slot,Vi Qi f.n,Vs aK f.keys.length cK,.bool f.done,Vi Qi f.e]] w fun e w' => Ret w w' e (a5n M f) aK cK/\Has Xb w' B lo (Up w (Foot B aS aH aF aL)) (a1f M f)/\Fine w w' (Foot B aS aH aF aL):=by
  have HR : Hid (KRow w aK cK f.keys):=r
  have HZ : Hid (∀ ad,aK = some ad->¬ Foot B aS aH aF aL ad.block):=hz
  have hres : a5n M f = toF (letF M f) 0:=by unfold a5n letF; split <;> rfl
  have hkeys : (letF M f).keys = f.keys:=by unfold letF; split <;> rfl
  have HLt : Hid (∀ (W : World),Mine Xb W B lo aS aH aF aL cS cH cF cL M->Calls Tryz.prog 202 #[.pointer (some ⟨B,0,none⟩),.agg #[Vi Qi f.c.kind,Vi Qi f.c.a,Vi Qi f.c.b,Vi Qi f.c.time,Vi Qi f.c.bk,Vi Qi f.c.slot,Vi Qi f.pl,Vi Qi f.cur,Vi Qi f.prev,Vi Qi f.slot,Vi Qi f.n,Vs aK f.keys.length cK,.bool f.done,Vi Qi f.e]] W fun e w' => e = .returned (.tuple #[.agg #[Vi Qi (letF M f).c.kind,Vi Qi (letF M f).c.a,Vi Qi (letF M f).c.b,Vi Qi (letF M f).c.time,Vi Qi (letF M f).c.bk,Vi Qi (letF M f).c.slot,Vi Qi (letF M f).pl,Vi Qi (letF M f).cur,Vi Qi (letF M f).prev,Vi Qi (letF M f).slot,Vi Qi (letF M f).n,Vs aK (letF M f).keys.length cK,.bool (letF M f).done,Vi Qi (letF M f).e],.bool (isSl M f.slot)])/\Has Xb w' B lo (Up W (Foot B aS aH aF aL)) (a1f M f)/\Fine W w' (Foot B aS aH aF aL)):=fun W m' => a3x M f B lo aS aH aF aL cS cH cF cL aK cK W m' hM
  rw [hres]
  rw [<- hkeys] at HR
  generalize a1f M f = M' at *
  generalize isSl M f.slot = had at *
  generalize letF M f = g at *
  obtain ⟨of,hof⟩:=frObj f aK cK
  obtain ⟨oz,hoz⟩ : ∃ o : Obj,o = a0e:=⟨_,rfl⟩
  have HE : Hid (Lk Xb w ((w.alloc of).alloc oz) B lo aS aH aF aL cS cH cF cL M f aK cK):=Lk.first m f aK cK hof hoz
  obtain ⟨q0,q1,q2,q3,q4,-,-,-,-,-,qs⟩:=boxf HE.out.m.box
  obtain ⟨f0,f1,f2,f3,f4,f5,f6,f7,f8,f9,f10,f11,f12,f13,ff,fs⟩:=a0a HE.out.fb
  unfold a0e at hoz
  clear m hres hkeys hM r hz
  go_enter Tryz.func169,Tryz.ntmps169
  go_wp2_with fail
  rw [<- hof,<- hoz]
  generalize (w.alloc of).alloc oz = W0 at *
  subst hof hoz
  refine (HLt.out W0 HE.out.m).mono ?_
  rintro e w2 ⟨rfl,hh2,hf2⟩
  have HE2 : Hid (Lk2 Xb w w2 (Foot B aS aH aF aL) B lo M' f aK cK):=HE.out.after hh2 hf2
  clear HE hh2 hf2
  clear q0 q1 q2 q3 q4 qs f0 f1 f2 f3 f4 f5 f6 f7 f8 f9 f10 f11 f12 f13 ff fs
  obtain ⟨f0,f1,f2,f3,f4,f5,f6,f7,f8,f9,f10,f11,f12,f13,ff,fs⟩:=a0a HE2.out.fb
  go_wp2_with fail
  have HE3 : Hid (Lk2 Xb w _ (Foot B aS aH aF aL) B lo M' g aK cK):=HE2.out.all g
  clear HE2
  refine (a0z g 0 aK cK _).mono ?_
  rintro e w9 ⟨rfl,hb9⟩
  have HE9 : Hid (Lk2 Xb w w9 (Foot B aS aH aF aL) B lo M' g aK cK):=HE3.out.below hb9
  clear HE3 hb9
  clear f0 f1 f2 f3 f4 f5 f6 f7 f8 f9 f10 f11 f12 f13 ff fs
  obtain ⟨g0,g1,g2,g3,g4,g5,g6,g7,g8,g9,g10,g11,g12,g13,gf,gs⟩:=a0a HE9.out.zb
  go_wp2
  refine bodyPost_ret (v:=.agg #[Vi Qi (toF g 0).c.kind,Vi Qi (toF g 0).c.a,Vi Qi (toF g 0).c.b,Vi Qi (toF g 0).c.time,Vi Qi (toF g 0).c.bk,Vi Qi (toF g 0).c.slot,Vi Qi (toF g 0).pl,Vi Qi (toF g 0).cur,Vi Qi (toF g 0).prev,Vi Qi (toF g 0).slot,Vi Qi (toF g 0).n,Vs aK (toF g 0).keys.length cK,.bool (toF g 0).done,Vi Qi (toF g 0).e]) (by simp [results,Tryz.results169,go_sem,toF,g0,g1,g2,g3,g4,g5,g6,g7,g8,g9,g10,g11,g12,g13]) rfl ⟨⟨aK,cK,rfl,HR.out.fine HE9.out.a0g.2 HZ.out,(fun ad h => .inl h),fun _ => ⟨rfl,rfl⟩⟩,HE9.out.a0g⟩
set_option maxHeartbeats 3200000 in
theorem c1j (M : Mm) (f : Fr) (B lo : Nat) (aS aH aF aL : Option Addr) (cS cH cF cL : Nat) (aK : Option Addr) (cK : Nat) (w : World)
    (m : Mine Xb w B lo aS aH aF aL cS cH cF cL M) (hM : Ok M) (r : KRow w aK cK f.keys) (hz : ∀ ad,aK = some ad->¬ Foot B aS aH aF aL ad.block) :
    Calls Tryz.prog 170 #[.pointer (some ⟨B,0,none⟩),.agg #[Vi Qi f.c.kind,Vi Qi f.c.a,Vi Qi f.c.b,Vi Qi f.c.time,Vi Qi f.c.bk,Vi Qi f.c.slot,Vi Qi f.pl,Vi Qi f.cur,Vi Qi f.prev,Vi Qi f.slot,Vi Qi f.n,Vs aK f.keys.length cK,.bool f.done,Vi Qi f.e]] w fun e w' => Ret w w' e (a7o M f) aK cK/\Has Xb w' B lo (Up w (Foot B aS aH aF aL)) (a1f M f)/\Fine w w' (Foot B aS aH aF aL):=by
  have HR : Hid (KRow w aK cK f.keys):=r
  have HZ : Hid (∀ ad,aK = some ad->¬ Foot B aS aH aF aL ad.block):=hz
  have hres : a7o M f = if isSl M f.slot then endF (letF M f) 5 else toF (letF M f) 0:=by unfold a7o letF; split <;> rfl
  have hkeys : (letF M f).keys = f.keys:=by unfold letF; split <;> rfl
  have HLt : Hid (∀ (W : World),Mine Xb W B lo aS aH aF aL cS cH cF cL M->Calls Tryz.prog 202 #[.pointer (some ⟨B,0,none⟩),.agg #[Vi Qi f.c.kind,Vi Qi f.c.a,Vi Qi f.c.b,Vi Qi f.c.time,Vi Qi f.c.bk,Vi Qi f.c.slot,Vi Qi f.pl,Vi Qi f.cur,Vi Qi f.prev,Vi Qi f.slot,Vi Qi f.n,Vs aK f.keys.length cK,.bool f.done,Vi Qi f.e]] W fun e w' => e = .returned (.tuple #[.agg #[Vi Qi (letF M f).c.kind,Vi Qi (letF M f).c.a,Vi Qi (letF M f).c.b,Vi Qi (letF M f).c.time,Vi Qi (letF M f).c.bk,Vi Qi (letF M f).c.slot,Vi Qi (letF M f).pl,Vi Qi (letF M f).cur,Vi Qi (letF M f).prev,Vi Qi (letF M f).slot,Vi Qi (letF M f).n,Vs aK (letF M f).keys.length cK,.bool (letF M f).done,Vi Qi (letF M f).e],.bool (isSl M f.slot)])/\Has Xb w' B lo (Up W (Foot B aS aH aF aL)) (a1f M f)/\Fine W w' (Foot B aS aH aF aL)):=fun W m' => a3x M f B lo aS aH aF aL cS cH cF cL aK cK W m' hM
  rw [hres]
  rw [<- hkeys] at HR
  generalize a1f M f = M' at *
  generalize isSl M f.slot = had at *
  generalize letF M f = g at *
  cases had
  · show Calls Tryz.prog 170 _ w fun e w' => Ret w w' e (toF g 0) aK cK/\Has Xb w' B lo (Up w (Foot B aS aH aF aL)) M'/\Fine w w' (Foot B aS aH aF aL)
    obtain ⟨of,hof⟩:=frObj f aK cK
    obtain ⟨oz,hoz⟩ : ∃ o : Obj,o = a0e:=⟨_,rfl⟩
    have HE : Hid (Lk Xb w ((w.alloc of).alloc oz) B lo aS aH aF aL cS cH cF cL M f aK cK):=Lk.first m f aK cK hof hoz
    obtain ⟨q0,q1,q2,q3,q4,-,-,-,-,-,qs⟩:=boxf HE.out.m.box
    obtain ⟨f0,f1,f2,f3,f4,f5,f6,f7,f8,f9,f10,f11,f12,f13,ff,fs⟩:=a0a HE.out.fb
    unfold a0e at hoz
    clear m hres hkeys hM r hz
    go_enter Tryz.func170,Tryz.ntmps170
    go_wp2_with fail
    rw [<- hof,<- hoz]
    generalize (w.alloc of).alloc oz = W0 at *
    subst hof hoz
    refine (HLt.out W0 HE.out.m).mono ?_
    rintro e w2 ⟨rfl,hh2,hf2⟩
    have HE2 : Hid (Lk2 Xb w w2 (Foot B aS aH aF aL) B lo M' f aK cK):=HE.out.after hh2 hf2
    clear HE hh2 hf2
    clear q0 q1 q2 q3 q4 qs f0 f1 f2 f3 f4 f5 f6 f7 f8 f9 f10 f11 f12 f13 ff fs
    obtain ⟨f0,f1,f2,f3,f4,f5,f6,f7,f8,f9,f10,f11,f12,f13,ff,fs⟩:=a0a HE2.out.fb
    go_wp2_with fail
    have HE3 : Hid (Lk2 Xb w _ (Foot B aS aH aF aL) B lo M' g aK cK):=HE2.out.all g
    clear HE2
    refine (a0z g 0 aK cK _).mono ?_
    rintro e w9 ⟨rfl,hb9⟩
    have HE9 : Hid (Lk2 Xb w w9 (Foot B aS aH aF aL) B lo M' g aK cK):=HE3.out.below hb9
    clear HE3 hb9
    clear f0 f1 f2 f3 f4 f5 f6 f7 f8 f9 f10 f11 f12 f13 ff fs
    obtain ⟨g0,g1,g2,g3,g4,g5,g6,g7,g8,g9,g10,g11,g12,g13,gf,gs⟩:=a0a HE9.out.zb
    go_wp2
    refine bodyPost_ret (v:=.agg #[Vi Qi (toF g 0).c.kind,Vi Qi (toF g 0).c.a,Vi Qi (toF g 0).c.b,Vi Qi (toF g 0).c.time,Vi Qi (toF g 0).c.bk,Vi Qi (toF g 0).c.slot,Vi Qi (toF g 0).pl,Vi Qi (toF g 0).cur,Vi Qi (toF g 0).prev,Vi Qi (toF g 0).slot,Vi Qi (toF g 0).n,Vs aK (toF g 0).keys.length cK,.bool (toF g 0).done,Vi Qi (toF g 0).e]) (by simp [results,Tryz.results170,go_sem,toF,g0,g1,g2,g3,g4,g5,g6,g7,g8,g9,g10,g11,g12,g13]) rfl ⟨⟨aK,cK,rfl,HR.out.fine HE9.out.a0g.2 HZ.out,(fun ad h => .inl h),fun _ => ⟨rfl,rfl⟩⟩,HE9.out.a0g⟩
  · show Calls Tryz.prog 170 _ w fun e w' => Ret w w' e (endF g 5) aK cK/\Has Xb w' B lo (Up w (Foot B aS aH aF aL)) M'/\Fine w w' (Foot B aS aH aF aL)
    obtain ⟨of,hof⟩:=frObj f aK cK
    obtain ⟨oz,hoz⟩ : ∃ o : Obj,o = a0e:=⟨_,rfl⟩
    have HE : Hid (Lk Xb w ((w.alloc of).alloc oz) B lo aS aH aF aL cS cH cF cL M f aK cK):=Lk.first m f aK cK hof hoz
    obtain ⟨q0,q1,q2,q3,q4,-,-,-,-,-,qs⟩:=boxf HE.out.m.box
    obtain ⟨f0,f1,f2,f3,f4,f5,f6,f7,f8,f9,f10,f11,f12,f13,ff,fs⟩:=a0a HE.out.fb
    unfold a0e at hoz
    clear m hres hkeys hM r hz
    go_enter Tryz.func170,Tryz.ntmps170
    go_wp2_with fail
    rw [<- hof,<- hoz]
    generalize (w.alloc of).alloc oz = W0 at *
    subst hof hoz
    refine (HLt.out W0 HE.out.m).mono ?_
    rintro e w2 ⟨rfl,hh2,hf2⟩
    have HE2 : Hid (Lk2 Xb w w2 (Foot B aS aH aF aL) B lo M' f aK cK):=HE.out.after hh2 hf2
    clear HE hh2 hf2
    clear q0 q1 q2 q3 q4 qs f0 f1 f2 f3 f4 f5 f6 f7 f8 f9 f10 f11 f12 f13 ff fs
    obtain ⟨f0,f1,f2,f3,f4,f5,f6,f7,f8,f9,f10,f11,f12,f13,ff,fs⟩:=a0a HE2.out.fb
    go_wp2_with fail
    have HE3 : Hid (Lk2 Xb w _ (Foot B aS aH aF aL) B lo M' g aK cK):=HE2.out.all g
    clear HE2
    refine (a6l g 5 aK cK _ (HR.out.fine HE3.out.fine HZ.out)).mono ?_
    rintro e w9 ⟨a9,c9,rfl,hr9,hi9,hb9⟩
    have HK9 : Hid (KRow w9 a9 c9 g.keys/\∀ ad,a9 = some ad->w.heap.size + 2<=ad.block):=⟨hr9,fun ad h => Nat.le_trans (lt_of_block HE3.out.zb) (hi9 ad h)⟩
    have HE9 : Hid (Lk2 Xb w w9 (Foot B aS aH aF aL) B lo M' g aK cK):=HE3.out.below hb9
    clear HE3 hb9 hr9 hi9
    clear f0 f1 f2 f3 f4 f5 f6 f7 f8 f9 f10 f11 f12 f13 ff fs
    obtain ⟨g0,g1,g2,g3,g4,g5,g6,g7,g8,g9,g10,g11,g12,g13,gf,gs⟩:=a0a HE9.out.zb
    go_wp2
    refine bodyPost_ret (v:=.agg #[Vi Qi (endF g 5).c.kind,Vi Qi (endF g 5).c.a,Vi Qi (endF g 5).c.b,Vi Qi (endF g 5).c.time,Vi Qi (endF g 5).c.bk,Vi Qi (endF g 5).c.slot,Vi Qi (endF g 5).pl,Vi Qi (endF g 5).cur,Vi Qi (endF g 5).prev,Vi Qi (endF g 5).slot,Vi Qi (endF g 5).n,Vs a9 (endF g 5).keys.length c9,.bool (endF g 5).done,Vi Qi (endF g 5).e]) (by simp [results,Tryz.results170,go_sem,endF,g0,g1,g2,g3,g4,g5,g6,g7,g8,g9,g10,g11,g12,g13]) rfl ⟨⟨a9,c9,rfl,b1s HK9.out.1 HK9.out.2,(fun ad h => .inr (by have:=HK9.out.2 ad h; omega)),fun h => by cases h⟩,HE9.out.a0g⟩
end
end Go.Proofs.YthhgoenomehobaaGreat.mm
