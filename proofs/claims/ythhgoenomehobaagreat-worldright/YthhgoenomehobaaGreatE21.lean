/- Parts. -/
import Derived.Test.YthhgoenomehobaaGreatE15
import Derived.Test.YthhgoenomehobaaGreatE16
import Derived.Test.YthhgoenomehobaaGreatE09
namespace Go.Proofs.YthhgoenomehobaaGreat.mm
set_option maxRecDepth 100000
set_option linter.unusedVariables false
open Go.Value renaming int → Vi, slice → Vs
open Go.IntKind renaming i64 → Qi
section
open Go.ChangeShapes Go.WideShapes Go.ChangeAt Go.RowKit Go.Joins Go.Deep Go.Sort
variable {Xb : Ex}
set_option maxHeartbeats 3200000 in
theorem b8x (M : Mm) (f : Fr) (B lo : Nat) (aS aH aF aL : Option Addr) (cS cH cF cL : Nat) (aK : Option Addr) (cK : Nat) (w : World)
    (m : Mine Xb w B lo aS aH aF aL cS cH cF cL M) (hM : Ok M) (hf : Fit M f) (r : KRow w aK cK f.keys) (hz : ∀ ad,aK = some ad->¬ Foot B aS aH aF aL ad.block) :
    Calls Tryz.prog 178 #[.pointer (some ⟨B,0,none⟩),.agg #[Vi Qi f.c.kind,Vi Qi f.c.a,Vi Qi f.c.b,Vi Qi f.c.time,Vi Qi f.c.bk,Vi Qi f.c.slot,Vi Qi f.pl,Vi Qi f.cur,Vi Qi f.prev,Vi Qi f.slot,Vi Qi f.n,Vs aK f.keys.length cK,.bool f.done,Vi Qi f.e]] w fun e w' => Ret w w' e (a9u M f) aK cK/\Has Xb w' B lo (Up w (Foot B aS aH aF aL)) (a8t M f)/\Fine w w' (Foot B aS aH aF aL):=by
  have hns:=hM.ns
  have hnh:=hM.nh.2
  have hcur:=hf.cur.2
  have hc1 : f.cur<=1000:=by omega
  have hn1 : M.slots.length<=1000:=by omega
  have HOk : Hid (Ok M):=hM
  have HR : Hid (KRow w aK cK f.keys):=r
  cases hsl : isSl M f.slot
  · have hres : a9u M f = a0n f:=by unfold a9u; rw [hsl]; rfl
    have hresM : a8t M f = a1f M f:=rfl
    have hlet : letF M f = f:=by unfold letF; rw [hsl]; rfl
    rw [hres,hresM]
    have HLt : Hid (∀ (W : World),Lk Xb w W B lo aS aH aF aL cS cH cF cL M f aK cK->Calls Tryz.prog 202 #[.pointer (some ⟨B,0,none⟩),.agg #[Vi Qi f.c.kind,Vi Qi f.c.a,Vi Qi f.c.b,Vi Qi f.c.time,Vi Qi f.c.bk,Vi Qi f.c.slot,Vi Qi f.pl,Vi Qi f.cur,Vi Qi f.prev,Vi Qi f.slot,Vi Qi f.n,Vs aK f.keys.length cK,.bool f.done,Vi Qi f.e]] W fun e w' => e = .returned (.tuple #[.agg #[Vi Qi f.c.kind,Vi Qi f.c.a,Vi Qi f.c.b,Vi Qi f.c.time,Vi Qi f.c.bk,Vi Qi f.c.slot,Vi Qi f.pl,Vi Qi f.cur,Vi Qi f.prev,Vi Qi f.slot,Vi Qi f.n,Vs aK f.keys.length cK,.bool f.done,Vi Qi f.e],.bool false])/\Lk2 Xb w w' (Foot B aS aH aF aL) B lo (a1f M f) f aK cK):=fun W h => by
      have:=a3x M f B lo aS aH aF aL cS cH cF cL aK cK W h.m HOk.out
      rw [hlet,hsl] at this
      exact this.mono (fun e w' h' => ⟨h'.1,h.after h'.2.1 h'.2.2⟩)
    generalize a1f M f = M' at *
    have HZ : Hid (∀ ad,aK = some ad->¬ (Foot B aS aH aF aL) ad.block):=hz
    obtain ⟨of,hof⟩:=frObj f aK cK
    obtain ⟨oz,hoz⟩ : ∃ o : Obj,o = a0e:=⟨_,rfl⟩
    have HE : Hid (Lk Xb w ((w.alloc of).alloc oz) B lo aS aH aF aL cS cH cF cL M f aK cK):=Lk.first m f aK cK hof hoz
    obtain ⟨q0,q1,q2,q3,q4,-,-,-,-,-,qs⟩:=boxf HE.out.m.box
    obtain ⟨f0,f1,f2,f3,f4,f5,f6,f7,f8,f9,f10,f11,f12,f13,ff,fs⟩:=a0a HE.out.fb
    unfold a0e at hoz
    clear m hc1 hn1 hcur hns hnh hM hf r hz hsl hres hresM hlet
    go_enter Tryz.func178,Tryz.ntmps178
    go_wp2_with fail
    rw [<- hof,<- hoz]
    generalize (w.alloc of).alloc oz = W0 at *
    subst hof hoz
    clear q0 q1 q2 q3 q4 qs
    clear f0 f1 f2 f3 f4 f5 f6 f7 f8 f9 f10 f11 f12 f13 ff fs
    refine (HLt.out _ (by exact HE.out.below ⟨rfl,rfl,rfl,Nat.le_refl _,fun _ _ => rfl⟩)).mono ?_
    rintro e w2 ⟨rfl,h9⟩
    have HE2 : Hid (Lk2 Xb w w2 (Foot B aS aH aF aL) B lo M' f aK cK):=h9
    clear HE h9
    obtain ⟨f0,f1,f2,f3,f4,f5,f6,f7,f8,f9,f10,f11,f12,f13,ff,fs⟩:=a0a HE2.out.fb
    go_wp2_with fail
    have HE3 : Hid (Lk2 Xb w _ (Foot B aS aH aF aL) B lo M' f aK cK):=HE2.out.all f
    clear HE2
    refine (a9q f aK cK _).mono ?_
    rintro e w9 ⟨rfl,hb9⟩
    have HE9 : Hid (Lk2 Xb w w9 (Foot B aS aH aF aL) B lo M' f aK cK):=HE3.out.below hb9
    clear HE3 hb9
    clear f0 f1 f2 f3 f4 f5 f6 f7 f8 f9 f10 f11 f12 f13 ff fs
    obtain ⟨g0,g1,g2,g3,g4,g5,g6,g7,g8,g9,g10,g11,g12,g13,gf,gs⟩:=a0a HE9.out.zb
    go_wp2
    refine bodyPost_ret (v:=.agg #[Vi Qi (a0n f).c.kind,Vi Qi (a0n f).c.a,Vi Qi (a0n f).c.b,Vi Qi (a0n f).c.time,Vi Qi (a0n f).c.bk,Vi Qi (a0n f).c.slot,Vi Qi (a0n f).pl,Vi Qi (a0n f).cur,Vi Qi (a0n f).prev,Vi Qi (a0n f).slot,Vi Qi (a0n f).n,Vs aK (a0n f).keys.length cK,.bool (a0n f).done,Vi Qi (a0n f).e]) (by simp [results,Tryz.results178,go_sem,a0n,g0,g1,g2,g3,g4,g5,g6,g7,g8,g9,g10,g11,g12,g13]) rfl ⟨⟨aK,cK,rfl,HR.out.fine HE9.out.a0g.2 HZ.out,(fun ad h => .inl h),fun _ => ⟨rfl,rfl⟩⟩,HE9.out.a0g⟩
  · obtain ⟨g,hg⟩ : ∃ g,g = letF M f:=⟨_,rfl⟩
    have hg2 : letF M f = { f with slot:=-1 }:=by unfold letF; rw [hsl]; rfl
    have hkeys : g.keys = f.keys:=by rw [hg,hg2]
    have hres : a9u M f = { g with e:=6,pl:=7 }:=by unfold a9u; rw [hsl,hg,hg2]; rfl
    have hresM : a8t M f = a1f M f:=rfl
    have hlet : letF M f = g:=hg.symm
    rw [hres,hresM]
    have HLt : Hid (∀ (W : World),Lk Xb w W B lo aS aH aF aL cS cH cF cL M f aK cK->Calls Tryz.prog 202 #[.pointer (some ⟨B,0,none⟩),.agg #[Vi Qi f.c.kind,Vi Qi f.c.a,Vi Qi f.c.b,Vi Qi f.c.time,Vi Qi f.c.bk,Vi Qi f.c.slot,Vi Qi f.pl,Vi Qi f.cur,Vi Qi f.prev,Vi Qi f.slot,Vi Qi f.n,Vs aK f.keys.length cK,.bool f.done,Vi Qi f.e]] W fun e w' => e = .returned (.tuple #[.agg #[Vi Qi g.c.kind,Vi Qi g.c.a,Vi Qi g.c.b,Vi Qi g.c.time,Vi Qi g.c.bk,Vi Qi g.c.slot,Vi Qi g.pl,Vi Qi g.cur,Vi Qi g.prev,Vi Qi g.slot,Vi Qi g.n,Vs aK g.keys.length cK,.bool g.done,Vi Qi g.e],.bool true])/\Lk2 Xb w w' (Foot B aS aH aF aL) B lo (a1f M f) f aK cK):=fun W h => by
      have:=a3x M f B lo aS aH aF aL cS cH cF cL aK cK W h.m HOk.out
      rw [hlet,hsl] at this
      exact this.mono (fun e w' h' => ⟨h'.1,h.after h'.2.1 h'.2.2⟩)
    generalize a1f M f = M' at *
    rw [<- hkeys] at HR
    have HZ : Hid (∀ ad,aK = some ad->¬ (Foot B aS aH aF aL) ad.block):=hz
    obtain ⟨of,hof⟩:=frObj f aK cK
    obtain ⟨oz,hoz⟩ : ∃ o : Obj,o = a0e:=⟨_,rfl⟩
    have HE : Hid (Lk Xb w ((w.alloc of).alloc oz) B lo aS aH aF aL cS cH cF cL M f aK cK):=Lk.first m f aK cK hof hoz
    obtain ⟨q0,q1,q2,q3,q4,-,-,-,-,-,qs⟩:=boxf HE.out.m.box
    obtain ⟨f0,f1,f2,f3,f4,f5,f6,f7,f8,f9,f10,f11,f12,f13,ff,fs⟩:=a0a HE.out.fb
    unfold a0e at hoz
    clear m hc1 hn1 hcur hns hnh hM hf r hz hsl hres hresM hlet hg hg2 hkeys
    go_enter Tryz.func178,Tryz.ntmps178
    go_wp2_with fail
    rw [<- hof,<- hoz]
    generalize (w.alloc of).alloc oz = W0 at *
    subst hof hoz
    clear q0 q1 q2 q3 q4 qs
    clear f0 f1 f2 f3 f4 f5 f6 f7 f8 f9 f10 f11 f12 f13 ff fs
    rename_i K1 hK1 K0 hK0
    have HK1 : Hid _:=hK1
    clear hK1
    refine (HLt.out _ (by exact HE.out.below ⟨rfl,rfl,rfl,Nat.le_refl _,fun _ _ => rfl⟩)).mono ?_
    rintro e w2 ⟨rfl,h9⟩
    have HE2 : Hid (Lk2 Xb w w2 (Foot B aS aH aF aL) B lo M' f aK cK):=h9
    clear HE h9
    obtain ⟨f0,f1,f2,f3,f4,f5,f6,f7,f8,f9,f10,f11,f12,f13,ff,fs⟩:=a0a HE2.out.fb
    go_wp2_with fail
    refine (fun (H : ∀ W3 : World,Lk2 Xb w W3 (Foot B aS aH aF aL) B lo M' g aK cK->K1 _ W3) => H _ (HE2.out.all g)) ?_
    clear HE2
    clear f0 f1 f2 f3 f4 f5 f6 f7 f8 f9 f10 f11 f12 f13 ff fs
    intro w3 h3
    have HE3 : Hid (Lk2 Xb w w3 (Foot B aS aH aF aL) B lo M' g aK cK):=h3
    clear h3
    refine HK1.out _ _ ?_
    clear HK1
    obtain ⟨f0,f1,f2,f3,f4,f5,f6,f7,f8,f9,f10,f11,f12,f13,ff,fs⟩:=a0a HE3.out.fb
    go_wp2_with fail
    have HE4 : Hid (Lk2 Xb w _ (Foot B aS aH aF aL) B lo M' { g with e:=6 } aK cK):=HE3.out.store 13 (Vi Qi 6) { g with e:=6 } rfl
    clear HE3
    refine (a0z { g with e:=6 } 7 aK cK _).mono ?_
    rintro e w9 ⟨rfl,hb9⟩
    have HE9 : Hid (Lk2 Xb w w9 (Foot B aS aH aF aL) B lo M' { g with e:=6 } aK cK):=HE4.out.below hb9
    clear HE4 hb9
    clear f0 f1 f2 f3 f4 f5 f6 f7 f8 f9 f10 f11 f12 f13 ff fs
    obtain ⟨g0,g1,g2,g3,g4,g5,g6,g7,g8,g9,g10,g11,g12,g13,gf,gs⟩:=a0a HE9.out.zb
    go_wp2
    refine bodyPost_ret (v:=.agg #[Vi Qi ({ g with e:=6,pl:=7 }).c.kind,Vi Qi ({ g with e:=6,pl:=7 }).c.a,Vi Qi ({ g with e:=6,pl:=7 }).c.b,Vi Qi ({ g with e:=6,pl:=7 }).c.time,Vi Qi ({ g with e:=6,pl:=7 }).c.bk,Vi Qi ({ g with e:=6,pl:=7 }).c.slot,Vi Qi ({ g with e:=6,pl:=7 }).pl,Vi Qi ({ g with e:=6,pl:=7 }).cur,Vi Qi ({ g with e:=6,pl:=7 }).prev,Vi Qi ({ g with e:=6,pl:=7 }).slot,Vi Qi ({ g with e:=6,pl:=7 }).n,Vs aK ({ g with e:=6,pl:=7 }).keys.length cK,.bool ({ g with e:=6,pl:=7 }).done,Vi Qi ({ g with e:=6,pl:=7 }).e]) (by simp [results,Tryz.results178,go_sem,toF,g0,g1,g2,g3,g4,g5,g6,g7,g8,g9,g10,g11,g12,g13]) rfl ⟨⟨aK,cK,rfl,HR.out.fine HE9.out.a0g.2 HZ.out,(fun ad h => .inl h),fun _ => ⟨rfl,rfl⟩⟩,HE9.out.a0g⟩
end
end Go.Proofs.YthhgoenomehobaaGreat.mm
