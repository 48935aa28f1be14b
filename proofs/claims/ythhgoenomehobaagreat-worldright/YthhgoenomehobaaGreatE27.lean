/- Parts. -/
import Derived.Test.YthhgoenomehobaaGreatE25
import Derived.Test.YthhgoenomehobaaGreatE09
import Derived.Deep.QuietTactic
import Derived.BigQuiet
import Derived.BigRegion
import Derived.Lib.QuietBelow
namespace Go.Proofs.YthhgoenomehobaaGreat.mm
set_option maxRecDepth 100000
set_option linter.unusedVariables false
open Go.Value renaming int → Vi, slice → Vs
open Go.IntKind renaming i64 → Qi
section
open Go.ChangeShapes Go.WideShapes Go.ChangeAt Go.RowKit Go.Joins Go.Deep Go.Sort
variable {Xb : Ex}
set_option maxHeartbeats 3200000 in
theorem dr_see (M : Mm) (f : Fr) (B lo : Nat) (aS aH aF aL : Option Addr) (cS cH cF cL : Nat) (aK : Option Addr) (cK : Nat) (w : World)
    (m : Mine Xb w B lo aS aH aF aL cS cH cF cL M) (hM : Ok M) (hf : Fit M f) (r : KRow w aK cK f.keys) (hz : ∀ ad,aK = some ad->¬ Foot B aS aH aF aL ad.block) :
    Calls Tryz.prog 183 #[.pointer (some ⟨B,0,none⟩),.agg #[Vi Qi f.c.kind,Vi Qi f.c.a,Vi Qi f.c.b,Vi Qi f.c.time,Vi Qi f.c.bk,Vi Qi f.c.slot,Vi Qi f.pl,Vi Qi f.cur,Vi Qi f.prev,Vi Qi f.slot,Vi Qi f.n,Vs aK f.keys.length cK,.bool f.done,Vi Qi f.e]] w fun e w' => Ret w w' e (b0c M f) aK cK/\Has Xb w' B lo (Up w (Foot B aS aH aF aL)) (M)/\Fine w w' (Foot B aS aH aF aL):=by
  have hns:=hM.ns
  have hnh:=hM.nh.2
  have hcur:=hf.cur.2
  have hc1 : f.cur<=1000:=by omega
  have hn1 : M.slots.length<=1000:=by omega
  have HOk : Hid (Ok M):=hM
  have HR : Hid (KRow w aK cK f.keys):=r
  by_cases hat : isAt M f = true
  · have h1:=a1l.1 hat
    obtain ⟨j,hj⟩ : ∃ j : Nat,f.cur - 1 = j:=⟨(f.cur - 1).toNat,by omega⟩
    have hjl : j < M.slots.length:=by omega
    obtain ⟨gS,rfl,oS,lS,kS,-⟩:=a1b m.c.s (by omega)
    obtain ⟨s,hs⟩ : ∃ s,s = a0d M (j : Int):=⟨_,rfl⟩
    have hst : stN f = j:=by unfold stN; rw [if_neg (by omega)]; exact hj
    have hres : b0c M f = toF f (if lkK s f then 4 else 3):=by unfold b0c; rw [if_pos hat,hj,<- hs]
    rw [hres]
    have HSt : Hid (∀ (W : World),Lk Xb w W B lo (some ⟨gS,0,none⟩) aH aF aL cS cH cF cL M f aK cK->Calls Tryz.prog 200 #[.pointer (some ⟨B,0,none⟩),.agg #[Vi Qi f.c.kind,Vi Qi f.c.a,Vi Qi f.c.b,Vi Qi f.c.time,Vi Qi f.c.bk,Vi Qi f.c.slot,Vi Qi f.pl,Vi Qi f.cur,Vi Qi f.prev,Vi Qi f.slot,Vi Qi f.n,Vs aK f.keys.length cK,.bool f.done,Vi Qi f.e]] W fun e w' => e = .returned (.tuple #[Vi Qi ((j : Int)),.bool true])/\Lk Xb w w' B lo (some ⟨gS,0,none⟩) aH aF aL cS cH cF cL M f aK cK):=fun W h => by
      have:=a0o M f B _ _ _ _ cS cH cF cL aK cK W h.m.box hc1 hn1
      rw [hst,hat] at this
      exact this.mono (fun e w' h' => ⟨h'.1,h.below h'.2⟩)
    have HX : Hid (∀ W,Mine Xb W B lo (some ⟨gS,0,none⟩) aH aF aL cS cH cF cL M->W.cell? ⟨gS,j * 6 + 1,none⟩ = some (Vi Qi s.a)/\W.cell? ⟨gS,j * 6 + 2,none⟩ = some (Vi Qi s.b)/\W.cell? ⟨gS,j * 6 + 5,none⟩ = some (Vi Qi s.next)):=fun W m' => ⟨(a0i m'.c.s hjl hs).2.1,(a0i m'.c.s hjl hs).2.2.1,(a0i m'.c.s hjl hs).2.2.2.2.2.1⟩
    cases hk : lkK s f
    · show Calls Tryz.prog 183 _ w fun e w' => Ret w w' e (toF f 3) aK cK/\Has Xb w' B lo (Up w (Foot B (some ⟨gS,0,none⟩) aH aF aL)) (M)/\Fine w w' (Foot B (some ⟨gS,0,none⟩) aH aF aL)
      have se : ∀ W : World,(Op.equalIn 10000 30 (.agg #[Vi Qi s.a,Vi Qi s.b]) (.agg #[Vi Qi f.c.a,Vi Qi f.c.b])).run Tryz.prog W = .ok false W:=fun W => by rw [a8w]; exact congrArg (fun b => Result.ok b W) hk
      have HZ : Hid (∀ ad,aK = some ad->¬ (Foot B (some ⟨gS,0,none⟩) aH aF aL) ad.block):=hz
      obtain ⟨of,hof⟩:=frObj f aK cK
      obtain ⟨oz,hoz⟩ : ∃ o : Obj,o = a0e:=⟨_,rfl⟩
      have HE : Hid (Lk Xb w ((w.alloc of).alloc oz) B lo (some ⟨gS,0,none⟩) aH aF aL cS cH cF cL M f aK cK):=Lk.first m f aK cK hof hoz
      obtain ⟨q0,q1,q2,q3,q4,-,-,-,-,-,qs⟩:=boxf HE.out.m.box
      obtain ⟨f0,f1,f2,f3,f4,f5,f6,f7,f8,f9,f10,f11,f12,f13,ff,fs⟩:=a0a HE.out.fb
      unfold a0e at hoz
      clear m hc1 hn1 hcur hns hnh hM hf r hz hk hres hs hst hat h1
      go_enter Tryz.func183,Tryz.ntmps183
      go_wp2_with fail
      rw [<- hof,<- hoz]
      generalize (w.alloc of).alloc oz = W0 at *
      subst hof hoz
      clear q0 q1 q2 q3 q4 qs
      clear f0 f1 f2 f3 f4 f5 f6 f7 f8 f9 f10 f11 f12 f13 ff fs
      refine (HSt.out _ (by exact HE.out.below ⟨rfl,rfl,rfl,Nat.le_refl _,fun _ _ => rfl⟩)).mono ?_
      rintro e w1 ⟨rfl,h9⟩
      have HE1 : Hid (Lk Xb w w1 B lo (some ⟨gS,0,none⟩) aH aF aL cS cH cF cL M f aK cK):=h9
      clear HE h9
      obtain ⟨q0,q1,q2,q3,q4,-,-,-,-,-,qs⟩:=boxf HE1.out.m.box
      obtain ⟨f0,f1,f2,f3,f4,f5,f6,f7,f8,f9,f10,f11,f12,f13,ff,fs⟩:=a0a HE1.out.fb
      obtain ⟨x1,x2,x5⟩:=HX.out w1 HE1.out.m
      go_wp2_with fail
      go_quiet (fail)
      go_wp2_with fail
      have HE2 : Hid (Lk2 Xb w (w1.drewN nq) (Foot B (some ⟨gS,0,none⟩) aH aF aL) B lo M f aK cK):=(HE1.out.below (w2:=w1.drewN nq) ⟨rfl,rfl,rfl,Nat.le_refl _,fun _ _ => rfl⟩).two
      clear HE1 x1 x2 x5
      clear q0 q1 q2 q3 q4 qs
      refine (a0z f 3 aK cK _).mono ?_
      rintro e w9 ⟨rfl,hb9⟩
      have HE9 : Hid (Lk2 Xb w w9 (Foot B (some ⟨gS,0,none⟩) aH aF aL) B lo M f aK cK):=HE2.out.below hb9
      clear HE2 hb9
      clear f0 f1 f2 f3 f4 f5 f6 f7 f8 f9 f10 f11 f12 f13 ff fs
      obtain ⟨g0,g1,g2,g3,g4,g5,g6,g7,g8,g9,g10,g11,g12,g13,gf,gs⟩:=a0a HE9.out.zb
      go_wp2
      refine bodyPost_ret (v:=.agg #[Vi Qi (toF f 3).c.kind,Vi Qi (toF f 3).c.a,Vi Qi (toF f 3).c.b,Vi Qi (toF f 3).c.time,Vi Qi (toF f 3).c.bk,Vi Qi (toF f 3).c.slot,Vi Qi (toF f 3).pl,Vi Qi (toF f 3).cur,Vi Qi (toF f 3).prev,Vi Qi (toF f 3).slot,Vi Qi (toF f 3).n,Vs aK (toF f 3).keys.length cK,.bool (toF f 3).done,Vi Qi (toF f 3).e]) (by simp [results,Tryz.results183,go_sem,toF,g0,g1,g2,g3,g4,g5,g6,g7,g8,g9,g10,g11,g12,g13]) rfl ⟨⟨aK,cK,rfl,HR.out.fine HE9.out.a0g.2 HZ.out,(fun ad h => .inl h),fun _ => ⟨rfl,rfl⟩⟩,HE9.out.a0g⟩
    · show Calls Tryz.prog 183 _ w fun e w' => Ret w w' e (toF f 4) aK cK/\Has Xb w' B lo (Up w (Foot B (some ⟨gS,0,none⟩) aH aF aL)) (M)/\Fine w w' (Foot B (some ⟨gS,0,none⟩) aH aF aL)
      have se : ∀ W : World,(Op.equalIn 10000 30 (.agg #[Vi Qi s.a,Vi Qi s.b]) (.agg #[Vi Qi f.c.a,Vi Qi f.c.b])).run Tryz.prog W = .ok true W:=fun W => by rw [a8w]; exact congrArg (fun b => Result.ok b W) hk
      have HZ : Hid (∀ ad,aK = some ad->¬ (Foot B (some ⟨gS,0,none⟩) aH aF aL) ad.block):=hz
      obtain ⟨of,hof⟩:=frObj f aK cK
      obtain ⟨oz,hoz⟩ : ∃ o : Obj,o = a0e:=⟨_,rfl⟩
      have HE : Hid (Lk Xb w ((w.alloc of).alloc oz) B lo (some ⟨gS,0,none⟩) aH aF aL cS cH cF cL M f aK cK):=Lk.first m f aK cK hof hoz
      obtain ⟨q0,q1,q2,q3,q4,-,-,-,-,-,qs⟩:=boxf HE.out.m.box
      obtain ⟨f0,f1,f2,f3,f4,f5,f6,f7,f8,f9,f10,f11,f12,f13,ff,fs⟩:=a0a HE.out.fb
      unfold a0e at hoz
      clear m hc1 hn1 hcur hns hnh hM hf r hz hk hres hs hst hat h1
      go_enter Tryz.func183,Tryz.ntmps183
      go_wp2_with fail
      rw [<- hof,<- hoz]
      generalize (w.alloc of).alloc oz = W0 at *
      subst hof hoz
      clear q0 q1 q2 q3 q4 qs
      clear f0 f1 f2 f3 f4 f5 f6 f7 f8 f9 f10 f11 f12 f13 ff fs
      refine (HSt.out _ (by exact HE.out.below ⟨rfl,rfl,rfl,Nat.le_refl _,fun _ _ => rfl⟩)).mono ?_
      rintro e w1 ⟨rfl,h9⟩
      have HE1 : Hid (Lk Xb w w1 B lo (some ⟨gS,0,none⟩) aH aF aL cS cH cF cL M f aK cK):=h9
      clear HE h9
      obtain ⟨q0,q1,q2,q3,q4,-,-,-,-,-,qs⟩:=boxf HE1.out.m.box
      obtain ⟨f0,f1,f2,f3,f4,f5,f6,f7,f8,f9,f10,f11,f12,f13,ff,fs⟩:=a0a HE1.out.fb
      obtain ⟨x1,x2,x5⟩:=HX.out w1 HE1.out.m
      go_wp2_with fail
      go_quiet (fail)
      go_wp2_with fail
      have HE2 : Hid (Lk2 Xb w (w1.drewN nq) (Foot B (some ⟨gS,0,none⟩) aH aF aL) B lo M f aK cK):=(HE1.out.below (w2:=w1.drewN nq) ⟨rfl,rfl,rfl,Nat.le_refl _,fun _ _ => rfl⟩).two
      clear HE1 x1 x2 x5
      clear q0 q1 q2 q3 q4 qs
      refine (a0z f 4 aK cK _).mono ?_
      rintro e w9 ⟨rfl,hb9⟩
      have HE9 : Hid (Lk2 Xb w w9 (Foot B (some ⟨gS,0,none⟩) aH aF aL) B lo M f aK cK):=HE2.out.below hb9
      clear HE2 hb9
      clear f0 f1 f2 f3 f4 f5 f6 f7 f8 f9 f10 f11 f12 f13 ff fs
      obtain ⟨g0,g1,g2,g3,g4,g5,g6,g7,g8,g9,g10,g11,g12,g13,gf,gs⟩:=a0a HE9.out.zb
      go_wp2
      refine bodyPost_ret (v:=.agg #[Vi Qi (toF f 4).c.kind,Vi Qi (toF f 4).c.a,Vi Qi (toF f 4).c.b,Vi Qi (toF f 4).c.time,Vi Qi (toF f 4).c.bk,Vi Qi (toF f 4).c.slot,Vi Qi (toF f 4).pl,Vi Qi (toF f 4).cur,Vi Qi (toF f 4).prev,Vi Qi (toF f 4).slot,Vi Qi (toF f 4).n,Vs aK (toF f 4).keys.length cK,.bool (toF f 4).done,Vi Qi (toF f 4).e]) (by simp [results,Tryz.results183,go_sem,toF,g0,g1,g2,g3,g4,g5,g6,g7,g8,g9,g10,g11,g12,g13]) rfl ⟨⟨aK,cK,rfl,HR.out.fine HE9.out.a0g.2 HZ.out,(fun ad h => .inl h),fun _ => ⟨rfl,rfl⟩⟩,HE9.out.a0g⟩
  · have hat0 : isAt M f = false:=by simpa using hat
    have hres : b0c M f = errF f 5 5:=by unfold b0c; rw [if_neg hat]
    rw [hres]
    have HSt : Hid (∀ (W : World),Lk Xb w W B lo aS aH aF aL cS cH cF cL M f aK cK->Calls Tryz.prog 200 #[.pointer (some ⟨B,0,none⟩),.agg #[Vi Qi f.c.kind,Vi Qi f.c.a,Vi Qi f.c.b,Vi Qi f.c.time,Vi Qi f.c.bk,Vi Qi f.c.slot,Vi Qi f.pl,Vi Qi f.cur,Vi Qi f.prev,Vi Qi f.slot,Vi Qi f.n,Vs aK f.keys.length cK,.bool f.done,Vi Qi f.e]] W fun e w' => e = .returned (.tuple #[Vi Qi (stN f),.bool false])/\Lk Xb w w' B lo aS aH aF aL cS cH cF cL M f aK cK):=fun W h => by
      have:=a0o M f B _ _ _ _ cS cH cF cL aK cK W h.m.box hc1 hn1
      rw [hat0] at this
      exact this.mono (fun e w' h' => ⟨h'.1,h.below h'.2⟩)
    have HZ : Hid (∀ ad,aK = some ad->¬ (Foot B aS aH aF aL) ad.block):=hz
    obtain ⟨of,hof⟩:=frObj f aK cK
    obtain ⟨oz,hoz⟩ : ∃ o : Obj,o = a0e:=⟨_,rfl⟩
    have HE : Hid (Lk Xb w ((w.alloc of).alloc oz) B lo aS aH aF aL cS cH cF cL M f aK cK):=Lk.first m f aK cK hof hoz
    obtain ⟨q0,q1,q2,q3,q4,-,-,-,-,-,qs⟩:=boxf HE.out.m.box
    obtain ⟨f0,f1,f2,f3,f4,f5,f6,f7,f8,f9,f10,f11,f12,f13,ff,fs⟩:=a0a HE.out.fb
    unfold a0e at hoz
    clear m hc1 hn1 hcur hns hnh hM hf r hz hres hat hat0
    go_enter Tryz.func183,Tryz.ntmps183
    go_wp2_with fail
    rw [<- hof,<- hoz]
    generalize (w.alloc of).alloc oz = W0 at *
    subst hof hoz
    clear q0 q1 q2 q3 q4 qs
    clear f0 f1 f2 f3 f4 f5 f6 f7 f8 f9 f10 f11 f12 f13 ff fs
    refine (HSt.out _ (by exact HE.out.below ⟨rfl,rfl,rfl,Nat.le_refl _,fun _ _ => rfl⟩)).mono ?_
    rintro e w1 ⟨rfl,h9⟩
    have HE1 : Hid (Lk Xb w w1 B lo aS aH aF aL cS cH cF cL M f aK cK):=h9
    clear HE h9
    obtain ⟨q0,q1,q2,q3,q4,-,-,-,-,-,qs⟩:=boxf HE1.out.m.box
    obtain ⟨f0,f1,f2,f3,f4,f5,f6,f7,f8,f9,f10,f11,f12,f13,ff,fs⟩:=a0a HE1.out.fb
    go_wp2_with fail
    have HE2 : Hid (Lk2 Xb w _ (Foot B aS aH aF aL) B lo M { f with e:=5 } aK cK):=(HE1.out.store 13 (Vi Qi 5) { f with e:=5 } rfl).two
    clear HE1
    clear q0 q1 q2 q3 q4 qs
    refine (a0z { f with e:=5 } 5 aK cK _).mono ?_
    rintro e w9 ⟨rfl,hb9⟩
    have HE9 : Hid (Lk2 Xb w w9 (Foot B aS aH aF aL) B lo M { f with e:=5 } aK cK):=HE2.out.below hb9
    clear HE2 hb9
    clear f0 f1 f2 f3 f4 f5 f6 f7 f8 f9 f10 f11 f12 f13 ff fs
    obtain ⟨g0,g1,g2,g3,g4,g5,g6,g7,g8,g9,g10,g11,g12,g13,gf,gs⟩:=a0a HE9.out.zb
    go_wp2
    refine bodyPost_ret (v:=.agg #[Vi Qi (errF f 5 5).c.kind,Vi Qi (errF f 5 5).c.a,Vi Qi (errF f 5 5).c.b,Vi Qi (errF f 5 5).c.time,Vi Qi (errF f 5 5).c.bk,Vi Qi (errF f 5 5).c.slot,Vi Qi (errF f 5 5).pl,Vi Qi (errF f 5 5).cur,Vi Qi (errF f 5 5).prev,Vi Qi (errF f 5 5).slot,Vi Qi (errF f 5 5).n,Vs aK (errF f 5 5).keys.length cK,.bool (errF f 5 5).done,Vi Qi (errF f 5 5).e]) (by simp [results,Tryz.results183,go_sem,errF,toF,g0,g1,g2,g3,g4,g5,g6,g7,g8,g9,g10,g11,g12,g13]) rfl ⟨⟨aK,cK,rfl,HR.out.fine HE9.out.a0g.2 HZ.out,(fun ad h => .inl h),fun _ => ⟨rfl,rfl⟩⟩,HE9.out.a0g⟩
end
end Go.Proofs.YthhgoenomehobaaGreat.mm
