/- Parts. -/
import Derived.Test.YthhgoenomehobaaGreatP08
import Derived.Test.YthhgoenomehobaaGreatP29
import Derived.Test.YthhgoenomehobaaGreatP26
import Derived.Test.YthhgoenomehobaaGreatP28
import Derived.Test.YthhgoenomehobaaGreatP14
import Derived.Test.YthhgoenomehobaaGreatP13
import Derived.Test.YthhgoenomehobaaGreatP15
import Derived.Test.YthhgoenomehobaaGreatP16
import Derived.Test.YthhgoenomehobaaGreatP27
import Derived.Test.YthhgoenomehobaaGreatP25
namespace Go.Proofs.YthhgoenomehobaaGreat.mm
set_option maxRecDepth 100000
set_option linter.unusedVariables false
open Go.Value renaming int → O, slice → Y
open Go.IntKind renaming i64 → J
open Go.Proofs.Tryz renaming prog → Pg
open Go renaming World → Wq
open Go.ChangeShapes Go.WideShapes Go.ChangeAt Go.RowKit Go.Joins Go.Deep Go.Sort
section
variable {Xb:Ex}
theorem Oo{w w':Wq}{B lo:Nat}{aS aH aF aL:Option Addr}{cS cH cF cL:Nat}{M:Mm}(m:Mine Xb w B lo aS aH aF aL cS cH cF cL M)(hb:Below w.heap.size w w'):Has Xb w' B lo (Up w (Ac B aS aH aF aL)) M/\Fine w w' (Ac B aS aH aF aL) :=
 ⟨⟨_,_,_,_,_,_,_,_,m.below hb,fun k hk=>.inl hk⟩,.of_below _ hb⟩
theorem a6c(M:Mm)(f:Fr)(B lo:Nat)(aS aH aF aL:Option Addr)(cS cH cF cL:Nat)(aK:Option Addr)(cK:Nat)(w:Wq)
  (m:Mine Xb w B lo aS aH aF aL cS cH cF cL M) (hM:Ok M) (hf:Fit M f) (r:Am w aK cK f.keys) (hz:∀ ad,aK=some ad->¬ Ac B aS aH aF aL ad.block) :
  Calls Pg 158 #[.pointer (some ⟨B,0,none⟩),.agg #[O J f.c.kind,O J f.c.a,O J f.c.b,O J f.c.time,O J f.c.bk,O J f.c.slot,O J f.pl,O J f.cur,O J f.prev,O J f.slot,O J f.n,Y aK f.keys.length cK,.bool f.done,O J f.e]] w fun e w'=>Ret w w' e (lkF M f) aK cK/\Has Xb w' B lo (Up w (Ac B aS aH aF aL)) (lkM M f)/\Fine w w' (Ac B aS aH aF aL):=by
 have ky:(lkF M f).keys=f.keys:=a8d M f
 have h8:f.pl=0\/f.pl=1\/f.pl=2\/f.pl=3\/f.pl=4\/f.pl=5\/f.pl=6\/7<=f.pl:=by have:=hf.pl;omega
 rcases h8 with hp|hp|hp|hp|hp|hp|hp|hp
 ·rw[lkF0 hp] at ky ⊢;rw[O5 (by omega)]
  exact Jw M f B lo aS aH aF aL cS cH cF cL aK cK w m hf.done (.inl ⟨hp,rfl,rfl⟩) fun W h=>(a6n M f B lo aS aH aF aL cS cH cF cL aK cK W h.m hM hf (r.below h.bl) hz rfl).mono fun e w2 h'=>D9 h h' ky r
 ·rw[lkF1 hp] at ky ⊢;rw[O5 (by omega)]
  exact Jw M f B lo aS aH aF aL cS cH cF cL aK cK w m hf.done (.inr (.inl ⟨hp,rfl,rfl⟩)) fun W h=>(b2t M f B lo aS aH aF aL cS cH cF cL aK cK W h.m hM hf (r.below h.bl) hz rfl).mono fun e w2 h'=>D9 h h' ky r
 ·rw[lkF2 hp] at ky ⊢;rw[O5 (by omega)]
  exact Jw M f B lo aS aH aF aL cS cH cF cL aK cK w m hf.done (.inr (.inr (.inl ⟨hp,rfl,rfl⟩))) fun W h=>(b0h M f B lo aS aH aF aL cS cH cF cL aK cK W h.m hM hf (r.below h.bl) hz rfl).mono fun e w2 h'=>D9 h h' ky r
 ·rw[lkF3 hp] at ky ⊢;rw[lkM3 hp]
  exact Jw M f B lo aS aH aF aL cS cH cF cL aK cK w m hf.done (.inr (.inr (.inr (.inl ⟨hp,rfl,rfl⟩)))) fun W h=>(b0f M f B lo aS aH aF aL cS cH cF cL aK cK W h.m hM hf (r.below h.bl) hz rfl rfl).mono fun e w2 h'=>D9 h h' ky r
 ·rw[lkF4 hp] at ky ⊢;rw[O5 (by omega)]
  exact Jw M f B lo aS aH aF aL cS cH cF cL aK cK w m hf.done (.inr (.inr (.inr (.inr (.inl ⟨hp,rfl,rfl⟩))))) fun W h=>(a6o M f B lo aS aH aF aL cS cH cF cL aK cK W h.m hM hf (r.below h.bl) hz rfl).mono fun e w2 h'=>D9 h h' ky r
 ·rw[lkF5 hp] at ky ⊢;rw[lkM5 hp]
  exact Jw M f B lo aS aH aF aL cS cH cF cL aK cK w m hf.done (.inr (.inr (.inr (.inr (.inr (.inl ⟨hp,rfl,rfl⟩)))))) fun W h=>(a6p M f B lo aS aH aF aL cS cH cF cL aK cK W h.m hM hf (r.below h.bl) hz rfl rfl).mono fun e w2 h'=>D9 h h' ky r
 ·rw[lkF6 hp] at ky ⊢;rw[lkM6 hp]
  exact Jw M f B lo aS aH aF aL cS cH cF cL aK cK w m hf.done (.inr (.inr (.inr (.inr (.inr (.inr (.inl ⟨hp,rfl,rfl⟩))))))) fun W h=>(b0g M f B lo aS aH aF aL cS cH cF cL aK cK W h.m hM hf (r.below h.bl) hz rfl rfl).mono fun e w2 h'=>D9 h h' ky r
 ·rw[lkF7 hp,O5 (by omega)]
  exact Jw M f B lo aS aH aF aL cS cH cF cL aK cK w m hf.done (.inr (.inr (.inr (.inr (.inr (.inr (.inr (⟨hp,rfl,rfl⟩)))))))) fun W h=>(Gn f 0 aK cK W).mono fun e w2 h'=>D9 h ⟨⟨aK,cK,h'.1,(r.below h.bl).below h'.2,fun _ h=>.inl h,fun _=>⟨rfl,rfl⟩⟩,Oo h.m h'.2⟩ rfl r
end
section
variable {Xb:Ex}
theorem b0n(t:Int)(M:Mm)(f:Fr)(B lo:Nat)(aS aH aF aL:Option Addr)(cS cH cF cL:Nat)(aK:Option Addr)(cK:Nat)(w:Wq)
  (m:Mine Xb w B lo aS aH aF aL cS cH cF cL M) (hM:Ok M) (hf:Fit M f) (hk:f.c.kind=2) (r:Am w aK cK f.keys) (hz:∀ ad,aK=some ad->¬ Ac B aS aH aF aL ad.block) :
  Calls Pg 159 #[.pointer (some ⟨B,0,none⟩),.agg #[O J f.c.kind,O J f.c.a,O J f.c.b,O J f.c.time,O J f.c.bk,O J f.c.slot,O J f.pl,O J f.cur,O J f.prev,O J f.slot,O J f.n,Y aK f.keys.length cK,.bool f.done,O J f.e],O J t] w fun e w'=>Ret w w' e (adF M f) aK cK/\Has Xb w' B lo (Up w (Ac B aS aH aF aL)) (adM t M f)/\Fine w w' (Ac B aS aH aF aL):=by
 have ky:(adF M f).keys=f.keys:=a6r M f
 have h8:f.pl=0\/f.pl=1\/f.pl=2\/f.pl=3\/f.pl=4\/f.pl=5\/f.pl=6\/f.pl=7\/8<=f.pl:=by have:=hf.pl;omega
 rcases h8 with hp|hp|hp|hp|hp|hp|hp|hp|hp
 ·rw[adF0 hp] at ky ⊢;rw[adM0 hp]
  exact Iz t M f B lo aS aH aF aL cS cH cF cL aK cK w m hf.done (.inl ⟨hp,rfl,rfl⟩) fun W h=>(if hF:M.free.length=0 then a6s M f B lo aS aH aF aL cS cH cF cL aK cK W h.m hM hf (r.below h.bl) hz hk hF else a6t M f B lo aS aH aF aL cS cH cF cL aK cK W h.m hM hf (r.below h.bl) hz hk hF).mono fun e w2 h'=>D9 h h' ky r
 ·rw[adF1 hp] at ky ⊢;rw[adM1 hp]
  exact Iz t M f B lo aS aH aF aL cS cH cF cL aK cK w m hf.done (.inr (.inl ⟨hp,rfl,rfl⟩)) fun W h=>(b0b t M f B lo aS aH aF aL cS cH cF cL aK cK W h.m hM hf (r.below h.bl) hz rfl rfl).mono fun e w2 h'=>D9 h h' ky r
 ·rw[adF2 hp] at ky ⊢;rw[Il (by omega)]
  exact Iz t M f B lo aS aH aF aL cS cH cF cL aK cK w m hf.done (.inr (.inr (.inl ⟨hp,rfl,rfl⟩))) fun W h=>(a6m M f B lo aS aH aF aL cS cH cF cL aK cK W h.m hM hf (r.below h.bl) hz rfl).mono fun e w2 h'=>D9 h h' ky r
 ·rw[adF3 hp] at ky ⊢;rw[Il (by omega)]
  exact Iz t M f B lo aS aH aF aL cS cH cF cL aK cK w m hf.done (.inr (.inr (.inr (.inl ⟨hp,rfl,rfl⟩)))) fun W h=>(b2q M f B lo aS aH aF aL cS cH cF cL aK cK W h.m hM hf (r.below h.bl) hz rfl).mono fun e w2 h'=>D9 h h' ky r
 ·rw[adF4 hp] at ky ⊢;rw[Il (by omega)]
  exact Iz t M f B lo aS aH aF aL cS cH cF cL aK cK w m hf.done (.inr (.inr (.inr (.inr (.inl ⟨hp,rfl,rfl⟩))))) fun W h=>(b0c M f B lo aS aH aF aL cS cH cF cL aK cK W h.m hM hf (r.below h.bl) hz rfl).mono fun e w2 h'=>D9 h h' ky r
 ·rw[adF5 hp] at ky ⊢;rw[adM5 hp]
  exact Iz t M f B lo aS aH aF aL cS cH cF cL aK cK w m hf.done (.inr (.inr (.inr (.inr (.inr (.inl ⟨hp,rfl,rfl⟩)))))) fun W h=>(b0m M f B lo aS aH aF aL cS cH cF cL aK cK W h.m hM hf (r.below h.bl) hz).mono fun e w2 h'=>D9 h h' ky r
 ·rw[adF6 hp] at ky ⊢;rw[adM6 hp]
  exact Iz t M f B lo aS aH aF aL cS cH cF cL aK cK w m hf.done (.inr (.inr (.inr (.inr (.inr (.inr (.inl ⟨hp,rfl,rfl⟩))))))) fun W h=>(a2u M f B lo aS aH aF aL cS cH cF cL aK cK W h.m hM hf (r.below h.bl) hz rfl rfl).mono fun e w2 h'=>D9 h h' ky r
 ·rw[adF7 hp] at ky ⊢;rw[adM7 hp]
  exact Iz t M f B lo aS aH aF aL cS cH cF cL aK cK w m hf.done (.inr (.inr (.inr (.inr (.inr (.inr (.inr (.inl ⟨hp,rfl,rfl⟩)))))))) fun W h=>(a2v t M f B lo aS aH aF aL cS cH cF cL aK cK W h.m hM hf (r.below h.bl) hz rfl rfl).mono fun e w2 h'=>D9 h h' ky r
 ·rw[adF8 hp,Il (by omega)]
  exact Iz t M f B lo aS aH aF aL cS cH cF cL aK cK w m hf.done (.inr (.inr (.inr (.inr (.inr (.inr (.inr (.inr (⟨hp,rfl,rfl⟩))))))))) fun W h=>(Vf f aK cK W).mono fun e w2 h'=>D9 h ⟨⟨aK,cK,h'.1,(r.below h.bl).below h'.2,fun _ h=>.inl h,fun _=>⟨rfl,rfl⟩⟩,Oo h.m h'.2⟩ rfl r
end
end Go.Proofs.YthhgoenomehobaaGreat.mm
