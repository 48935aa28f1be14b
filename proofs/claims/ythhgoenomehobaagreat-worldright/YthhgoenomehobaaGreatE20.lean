/- Parts. -/
import Derived.Test.YthhgoenomehobaaGreatE15
import Derived.Test.YthhgoenomehobaaGreatE16
import Derived.Test.YthhgoenomehobaaGreatE09
namespace Go.Proofs.YthhgoenomehobaaGreat.mm
set_option maxRecDepth 100000
set_option linter.unusedVariables false
open Go.Value renaming int → Vi, slice → Vs
open Go.IntKind renaming i64 → Qi
section
open Go.ChangeShapes Go.WideShapes Go.ChangeAt Go.RowKit Go.Joins Go.Deep Go.Sort
variable {Xb : Ex}
set_option maxHeartbeats 3200000 in
theorem ad_take1 (M : Mm) (f : Fr) (B lo : Nat) (aS aH aF aL : Option Addr) (cS cH cF cL : Nat) (aK : Option Addr) (cK : Nat) (w : World)
    (m : Mine Xb w B lo aS aH aF aL cS cH cF cL M) (hM : Ok M) (hf : Fit M f) (r : KRow w aK cK f.keys) (hz : ∀ ad,aK = some ad->¬ Foot B aS aH aF aL ad.block) (hk : f.c.kind = 2) (hF : ¬ M.free.length = 0) :
    Calls Tryz.prog 172 #[.pointer (some ⟨B,0,none⟩),.agg #[Vi Qi f.c.kind,Vi Qi f.c.a,Vi Qi f.c.b,Vi Qi f.c.time,Vi Qi f.c.bk,Vi Qi f.c.slot,Vi Qi f.pl,Vi Qi f.cur,Vi Qi f.prev,Vi Qi f.slot,Vi Qi f.n,Vs aK f.keys.length cK,.bool f.done,Vi Qi f.e]] w fun e w' => Ret w w' e (a5s M f) aK cK/\Has Xb w' B lo (Up w (Foot B aS aH aF aL)) (a4b M f)/\Fine w w' (Foot B aS aH aF aL):=by
  have hns:=hM.ns
  have hnh:=hM.nh.2
  have hcur:=hf.cur.2
  have hc1 : f.cur<=1000:=by omega
  have hn1 : M.slots.length<=1000:=by omega
  have HOk : Hid (Ok M):=hM
  have HR : Hid (KRow w aK cK f.keys):=r
  obtain ⟨k1,k2,k3⟩:=b2j hk hf.call
  have hnow:=hM.now
  have hun : untA M f = M.now + f.c.time:=by unfold untA; rw [if_neg (by omega)]
  have HUn : Hid (∀ W : World,Calls Tryz.prog 204 #[Vi Qi M.now,Vi Qi f.c.time] W fun e w' => e = .returned (Vi Qi (M.now + f.c.time))/\W = w'):=fun W => b4q _ _ W hnow.1 hnow.2 k2 k3
  have hF' : 0 < M.free.length:=by omega
  have hres : a5s M f = a1m f (a2v M) 1:=by unfold a5s; rw [if_neg hF]
  have hresM : a4b M f = a5d M f.c.a f.c.b (M.now + f.c.time):=by unfold a4b; rw [if_neg hF,hun]
  rw [hres,hresM]
  have HTk : Hid (∀ W : World,Lk Xb w W B lo aS aH aF aL cS cH cF cL M f aK cK->Calls Tryz.prog 203 #[.pointer (some ⟨B,0,none⟩),.agg #[Vi Qi f.c.a,Vi Qi f.c.b],Vi Qi (M.now + f.c.time)] W fun e w' => e = .returned (.tuple #[Vi Qi (a2v M),.bool true])/\Lk2 Xb w w' (Foot B aS aH aF aL) B lo (a5d M f.c.a f.c.b (M.now + f.c.time)) f aK cK):=fun W h => (c2k ⟨_,_,_,_,_,_,_,_,h.m,fun _ h => h⟩ HOk.out hF').mono (fun e w' h' => ⟨h'.1,h.after h'.2.1 h'.2.2⟩)
  generalize a5d M f.c.a f.c.b (M.now + f.c.time) = M' at *
  generalize a2v M = la at *
  have HZ : Hid (∀ ad,aK = some ad->¬ (Foot B aS aH aF aL) ad.block):=hz
  obtain ⟨of,hof⟩:=frObj f aK cK
  obtain ⟨oz,hoz⟩ : ∃ o : Obj,o = a0e:=⟨_,rfl⟩
  have HE : Hid (Lk Xb w ((w.alloc of).alloc oz) B lo aS aH aF aL cS cH cF cL M f aK cK):=Lk.first m f aK cK hof hoz
  obtain ⟨q0,q1,q2,q3,q4,-,-,-,-,-,qs⟩:=boxf HE.out.m.box
  obtain ⟨f0,f1,f2,f3,f4,f5,f6,f7,f8,f9,f10,f11,f12,f13,ff,fs⟩:=a0a HE.out.fb
  unfold a0e at hoz
  clear m hc1 hn1 hcur hns hnh hM hf r hz hres hresM hF hF' hun hnow k1 k2 k3 hk
  go_enter Tryz.func172,Tryz.ntmps172
  go_wp2_with fail
  rw [<- hof,<- hoz]
  generalize (w.alloc of).alloc oz = W0 at *
  subst hof hoz
  rename_i K0 hK0
  apply a4c (R:=fun a => ∀ W2 : World,Lk2 Xb w W2 (Foot B aS aH aF aL) B lo M' f aK cK->K0 a W2)
  · intro tail0
    have tail : Hid _:=tail0
    clear tail0
    go_region_with (first | (go_at_call 204; refine (HUn.out _).mono ?_; rintro e w3 ⟨rfl,rfl⟩) | (go_at_call 203; refine (HTk.out _ (by exact HE.out.below ⟨rfl,rfl,rfl,Nat.le_refl _,fun _ _ => rfl⟩)).mono ?_; rintro e w2 ⟨rfl,h9⟩; have HE2 : Hid (Lk2 Xb w w2 (Foot B aS aH aF aL) B lo M' f aK cK):=h9; clear h9))
    all_goals exact tail.out _ HE2.out
  · intro w2 h2
    refine hK0 _ _ ?_
    have HE2 : Hid (Lk2 Xb w w2 (Foot B aS aH aF aL) B lo M' f aK cK):=h2
    clear h2 HE hK0
    clear q0 q1 q2 q3 q4 qs
    clear f0 f1 f2 f3 f4 f5 f6 f7 f8 f9 f10 f11 f12 f13 ff fs
    obtain ⟨f0,f1,f2,f3,f4,f5,f6,f7,f8,f9,f10,f11,f12,f13,ff,fs⟩:=a0a HE2.out.fb
    go_wp2_with fail
    have HE3 : Hid (Lk2 Xb w _ (Foot B aS aH aF aL) B lo M' { f with slot:=la } aK cK):=HE2.out.store 9 (Vi Qi la) { f with slot:=la } rfl
    clear HE2
    refine (a0z { f with slot:=la } 1 aK cK _).mono ?_
    rintro e w9 ⟨rfl,hb9⟩
    have HE9 : Hid (Lk2 Xb w w9 (Foot B aS aH aF aL) B lo M' { f with slot:=la } aK cK):=HE3.out.below hb9
    clear HE3 hb9
    clear f0 f1 f2 f3 f4 f5 f6 f7 f8 f9 f10 f11 f12 f13 ff fs
    obtain ⟨g0,g1,g2,g3,g4,g5,g6,g7,g8,g9,g10,g11,g12,g13,gf,gs⟩:=a0a HE9.out.zb
    go_wp2
    refine bodyPost_ret (v:=.agg #[Vi Qi (a1m f la 1).c.kind,Vi Qi (a1m f la 1).c.a,Vi Qi (a1m f la 1).c.b,Vi Qi (a1m f la 1).c.time,Vi Qi (a1m f la 1).c.bk,Vi Qi (a1m f la 1).c.slot,Vi Qi (a1m f la 1).pl,Vi Qi (a1m f la 1).cur,Vi Qi (a1m f la 1).prev,Vi Qi (a1m f la 1).slot,Vi Qi (a1m f la 1).n,Vs aK (a1m f la 1).keys.length cK,.bool (a1m f la 1).done,Vi Qi (a1m f la 1).e]) (by simp [results,Tryz.results172,go_sem,a1m,toF,g0,g1,g2,g3,g4,g5,g6,g7,g8,g9,g10,g11,g12,g13]) rfl ⟨⟨aK,cK,rfl,HR.out.fine HE9.out.a0g.2 HZ.out,(fun ad h => .inl h),fun _ => ⟨rfl,rfl⟩⟩,HE9.out.a0g⟩
end
end Go.Proofs.YthhgoenomehobaaGreat.mm
