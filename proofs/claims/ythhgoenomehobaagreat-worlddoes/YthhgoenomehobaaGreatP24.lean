/- Parts. -/
import Derived.Test.YthhgoenomehobaaGreatP23
import Derived.Test.YthhgoenomehobaaGreatP08
import Derived.Test.YthhgoenomehobaaGreatP17
import Derived.Test.YthhgoenomehobaaGreatP14
namespace Go.Proofs.YthhgoenomehobaaGreat.mm
set_option maxRecDepth 100000
set_option linter.unusedVariables false
open Go.Value renaming int → O, slice → Y
open Go.IntKind renaming i64 → J
open Go.Proofs.Tryz renaming prog → Pg
open Go renaming World → Wq
open Go.ChangeShapes Go.WideShapes Go.ChangeAt Go.RowKit Go.Joins Go.Deep Go.Sort
section
variable {Xb:Ex}
theorem Io{M:Mm}{f:Fr}(hf:Fit M f):f.cur<=0/\Ej M f=false/\stN f=0\/∃ j:Nat,f.cur=(j:Int)+1/\j<M.slots.length/\Ej M f=true/\f.cur - 1=j/\stN f=j:=by
 have h2:=hf.cur.2
 unfold stN
 by_cases h:f.cur<=0
 ·refine .inl ⟨h,?_,if_pos h⟩
  cases hx:Ej M f
  ·rfl
  ·have:=Es.1 hx;omega
 ·exact .inr ⟨(f.cur - 1).toNat,by omega,by omega,Es.2 (by omega),by omega,by rw[if_neg h];omega⟩
theorem P7{M:Mm}{f:Fr}(hf:Fit M f):f.slot<0/\Dc M f.slot=false\/∃ j:Nat,f.slot=j/\j<M.slots.length/\Dc M f.slot=true:=by
 have h2:=hf.slot.2
 by_cases h:f.slot<0
 ·exact .inl ⟨h,b1d h⟩
 ·exact .inr ⟨f.slot.toNat,by omega,by omega,Eg.2 (by omega)⟩
theorem Lk2.put{w w1:Wq}{Z:Nat->Prop}{B lo:Nat}{M:Mm}{f:Fr}{aK:Option Addr}{cK:Nat}(h:Lk2 Xb w w1 Z B lo M f aK cK)(g:Fr):Lk2 Xb w (w1.setCells w.heap.size 0 (g.enc aK cK)) Z B lo M g aK cK:=by
 obtain⟨aS,aH,aF,aL,cS,cH,cF,cL,m,hz⟩:=h.mine
 refine⟨h.zl,Gw h.fine (.inr (Nat.le_refl _)),⟨aS,aH,aF,aL,cS,cH,cF,cL,m.same (by rw[setCells_size];exact Nat.le_refl _) (fun k _ hk=>Ad ?_ _ _ _),hz⟩,Bi h.fb rfl,(Ad (by omega) _ _ _).trans h.zb⟩
 rcases hz k hk with h3|h3
 ·have:=h.zl k h3;omega
 ·omega
def Ib(Xb:Ex)(w:Wq)(Z:Nat->Prop)(B lo:Nat)(aK:Option Addr)(cK:Nat)(N:Mm)(G:Fr)(e:Ending)(V:Wq):Prop :=
 Ret w V e G aK cK/\Has Xb V B lo (Up w Z) N/\Fine w V Z
def RetN(Xb:Ex)(w:Wq)(Z:Nat->Prop)(B lo:Nat)(N:Mm)(G:Fr)(e:Ending)(V:Wq):Prop :=
 a0k w V e G/\Has Xb V B lo (Up w Z) N/\Fine w V Z
theorem frO(f:Fr)(aK:Option Addr)(cK:Nat):∃ o:Obj,o=.cells #[O J f.c.kind,O J f.c.a,O J f.c.b,O J f.c.time,O J f.c.bk,O J f.c.slot,O J f.pl,O J f.cur,O J f.prev,O J f.slot,O J f.n,Y aK f.keys.length cK,.bool f.done,O J f.e] 47:=⟨_,rfl⟩
section
variable {w V:Wq} {Z:Nat->Prop} {B lo:Nat} {N:Mm} {f G:Fr} {aK:Option Addr} {cK:Nat}
theorem Ye{e:Ending}(h:StQ w (RQ Xb w Z B lo aK cK N G) e V):StQ w (Ib Xb w Z B lo aK cK N G) e V:=by
 obtain⟨g,a,c,h1,h2,h3,h4⟩:=h
 exact⟨g,a,c,h1,h2,h3,⟨aK,cK,h4.1.1,h4.1.2,fun _ h=>.inl h,fun _=>⟨rfl,rfl⟩⟩,h4.2⟩
theorem Et(k:Int)(h:Lk2 Xb w V Z B lo N f aK cK)(hG:toF f k=G)(hr:Am w aK cK f.keys)(hz:∀ ad,aK=some ad->¬ Z ad.block):Calls Pg 171 #[.agg #[O J f.c.kind,O J f.c.a,O J f.c.b,O J f.c.time,O J f.c.bk,O J f.c.slot,O J f.pl,O J f.cur,O J f.prev,O J f.slot,O J f.n,Y aK f.keys.length cK,.bool f.done,O J f.e],O J k] V (StQ w (Ib Xb w Z B lo aK cK N G)) :=
 (Gn f k aK cK V).mono fun _ _ h1=>Ye (h1.1 ▸ Si (h.below h1.2) hG hr hz)
theorem a3g(h:Lk2 Xb w V Z B lo N f aK cK)(hG:Cc f=G)(hr:Am w aK cK f.keys)(hz:∀ ad,aK=some ad->¬ Z ad.block):Calls Pg 180 #[.agg #[O J f.c.kind,O J f.c.a,O J f.c.b,O J f.c.time,O J f.c.bk,O J f.c.slot,O J f.pl,O J f.cur,O J f.prev,O J f.slot,O J f.n,Y aK f.keys.length cK,.bool f.done,O J f.e]] V (StQ w (Ib Xb w Z B lo aK cK N G)) :=
 (Vf f aK cK V).mono fun _ _ h1=>Ye (h1.1 ▸ Si (h.below h1.2) hG hr hz)
theorem a4f(h:Lk2 Xb w V Z B lo N f aK cK)(hG:Du f 8 5=G)(hr:Am w aK cK f.keys)(hz:∀ ad,aK=some ad->¬ Z ad.block):Calls Pg 188 #[.agg #[O J f.c.kind,O J f.c.a,O J f.c.b,O J f.c.time,O J f.c.bk,O J f.c.slot,O J f.pl,O J f.cur,O J f.prev,O J f.slot,O J f.n,Y aK f.keys.length cK,.bool f.done,O J f.e]] V (StQ w (Ib Xb w Z B lo aK cK N G)) :=
 (Pj f aK cK V).mono fun _ _ h1=>Ye (h1.1 ▸ Si (h.below h1.2) hG hr hz)
theorem Xr(h:Lk2 Xb w V Z B lo N f aK cK)(hG:toF f 6=G)(hr:Am w aK cK f.keys)(hz:∀ ad,aK=some ad->¬ Z ad.block):Calls Pg 196 #[.agg #[O J f.c.kind,O J f.c.a,O J f.c.b,O J f.c.time,O J f.c.bk,O J f.c.slot,O J f.pl,O J f.cur,O J f.prev,O J f.slot,O J f.n,Y aK f.keys.length cK,.bool f.done,O J f.e]] V (StQ w (Ib Xb w Z B lo aK cK N G)) :=
 (Qd f aK cK V).mono fun _ _ h1=>Ye (h1.1 ▸ Si (h.below h1.2) hG hr hz)
theorem a2z(k:Int)(h:Lk2 Xb w V Z B lo N f aK cK)(hG:Ag f k=G)(hr:Am w aK cK f.keys)(hz:∀ ad,aK=some ad->¬ Z ad.block):Calls Pg 199 #[.agg #[O J f.c.kind,O J f.c.a,O J f.c.b,O J f.c.time,O J f.c.bk,O J f.c.slot,O J f.pl,O J f.cur,O J f.prev,O J f.slot,O J f.n,Y aK f.keys.length cK,.bool f.done,O J f.e],O J k] V (StQ w (RetN Xb w Z B lo N G)):=by
 subst hG
 have hz':=lt_of_block h.zb
 refine(Rz f k aK cK V (hr.fine h.fine hz)).mono ?_
 rintro e w2 ⟨a,c,rfl,hk,hb⟩
 have h2:=h.below hb
 have hs:=h2.same (w2:=w2.setCells (w.heap.size+1) 0 ((Ag f k).enc a c)) (by rw[setCells_size];exact Nat.le_refl _) (Ap _ _ _) (fun k hk=>Ad hk _ _ _)
 exact⟨Ag f k,a,c,rfl,Az h2.zb (by simp),Bi h2.zb rfl,⟨a,c,rfl,(hk.same fun ad e=>Ad (by have:=(hk.lt ad e).1;omega) _ _ _).le (by omega)⟩,hs⟩
theorem S9(k:Int)(h:Lk2 Xb w V Z B lo N f aK cK)(hG:Ag f k=G)(hr:Am w aK cK f.keys)(hz:∀ ad,aK=some ad->¬ Z ad.block)(hm:f.keys.length<=100):Calls Pg 199 #[.agg #[O J f.c.kind,O J f.c.a,O J f.c.b,O J f.c.time,O J f.c.bk,O J f.c.slot,O J f.pl,O J f.cur,O J f.prev,O J f.slot,O J f.n,Y aK f.keys.length cK,.bool f.done,O J f.e],O J k] V (StQ w (Ib Xb w Z B lo aK cK N G)) :=
 (a2z k h hG hr hz).mono fun e V' h=>by
  obtain⟨g,a,c,h1,h2,h3,⟨a',c',h4,h5⟩,h6⟩:=h
  subst hG
  exact⟨g,a,c,h1,h2,h3,⟨a',c',h4,h5.row (by show f.keys.length<=1000;omega),fun ad e=>.inr (h5.lt ad e).1,fun h=>by cases h⟩,h6⟩
end
section
variable {w W W':Wq} {B lo:Nat} {aS aH aF aL:Option Addr} {cS cH cF cL:Nat} {M:Mm} {f:Fr} {aK:Option Addr} {cK b:Nat}
theorem LH.below(h:LH Xb w W B lo aS aH aF aL cS cH cF cL M f aK cK b)(hb:Below W.heap.size W W'):LH Xb w W' B lo aS aH aF aL cS cH cF cL M f aK cK b :=
 ⟨h.e.out.below hb,h.r,h.z,h.ok,h.fit,h.bl,h.bb,h.ns,h.nh⟩
theorem LH.first(m:Mine Xb w B lo aS aH aF aL cS cH cF cL M)(hM:Ok M)(hf:Fit M f)(r:Am w aK cK f.keys)(hz:∀ ad,aK=some ad->¬ Ac B aS aH aF aL ad.block){o oz:Obj}(ho:o=.cells #[O J f.c.kind,O J f.c.a,O J f.c.b,O J f.c.time,O J f.c.bk,O J f.c.slot,O J f.pl,O J f.cur,O J f.prev,O J f.slot,O J f.n,Y aK f.keys.length cK,.bool f.done,O J f.e] 47)(hoz:oz=Ae) :
  ∃ b:Nat,LH Xb w ((w.alloc o).alloc oz) B lo aS aH aF aL cS cH cF cL M f aK cK b/\bkN M f=b:=by
 obtain⟨b0,b1⟩:=He hM hf.call
 have hb:Ey M.heads.length f.c=(bkN M f:Nat):=(Int.toNat_of_nonneg b0).symm
 exact⟨_,⟨Lk.first m f aK cK ho hoz,r,hz,hM,hf,by have:=hb ▸ b1;omega,hb,hM.ns,hM.nh.2⟩,rfl⟩
theorem LH.stands(h:LH Xb w W B lo aS aH aF aL cS cH cF cL M f aK cK b):Calls Pg 200 #[.pointer (some ⟨B,0,none⟩),.agg #[O J f.c.kind,O J f.c.a,O J f.c.b,O J f.c.time,O J f.c.bk,O J f.c.slot,O J f.pl,O J f.cur,O J f.prev,O J f.slot,O J f.n,Y aK f.keys.length cK,.bool f.done,O J f.e]] W fun e w'=>e=.returned (.tuple #[O J (stN f),.bool (Ej M f)])/\LH Xb w w' B lo aS aH aF aL cS cH cF cL M f aK cK b:=by
 have:=h.ns
 have:=h.fit.out.cur.2
 exact(Ea M f B aS aH aF aL cS cH cF cL aK cK W h.e.out.m.box (by omega) (by omega)).mono fun _ _ h'=>⟨h'.1,h.below h'.2⟩
theorem LH.bk(h:LH Xb w W B lo aS aH aF aL cS cH cF cL M f aK cK b):Calls Pg 34 #[.agg #[Y aS M.slots.length cS,Y aH M.heads.length cH,Y aF M.free.length cF,Y aL M.locks.length cL,O J M.now],.agg #[O J f.c.kind,O J f.c.a,O J f.c.b,O J f.c.time,O J f.c.bk,O J f.c.slot]] W fun e w'=>e=.returned (O J (b:Int))/\Below W.heap.size W w':=by
 have:=h.nh
 exact h.bb.out ▸ F8 aS aH aF aL _ _ _ _ cS cH cF cL M.now f.c W (by omega)
theorem LH.sl(h:LH Xb w W B lo aS aH aF aL cS cH cF cL M f aK cK b)(W:Wq):Calls Pg 111 #[.agg #[Y aS M.slots.length cS,Y aH M.heads.length cH,Y aF M.free.length cF,Y aL M.locks.length cL,O J M.now],O J f.slot] W fun e w'=>e=.returned (.bool (Dc M f.slot))/\Below W.heap.size W w':=by
 have:=h.ns
 exact Ed aS aH aF aL _ _ _ _ cS cH cF cL M.now f.slot W (by omega)
end
end
end Go.Proofs.YthhgoenomehobaaGreat.mm
