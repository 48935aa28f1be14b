/- Parts. -/
import Derived.Test.YthhgoenomehobaaGreatP30
import Derived.Test.YthhgoenomehobaaGreatP28
import Derived.Test.YthhgoenomehobaaGreatP31
import Derived.Test.YthhgoenomehobaaGreatP19
import Derived.Test.YthhgoenomehobaaGreatP27
import Derived.Test.YthhgoenomehobaaGreatP33
import Derived.Test.YthhgoenomehobaaGreatP23
import Derived.Test.YthhgoenomehobaaGreatP24
import Derived.Test.YthhgoenomehobaaGreatP29
import Derived.Test.YthhgoenomehobaaGreatP35
import Derived.Test.YthhgoenomehobaaGreatP32
import Derived.Deep.RegionHeld3
namespace Go.Proofs.YthhgoenomehobaaGreat.mm
open Bool renaming eq_false_or_eq_true → nM
open Int renaming toNat_of_nonneg → nK
open Calls renaming quiet_of_same → nJ
open IntKind renaming wrap_i64 → nI, i64 → J
open Value renaming slice → eX, int → O, slice → Y
open World renaming size_setCell → eQ, setCells → jZ
open List renaming getElem_mem → bJ, length_set → dZ, replicate → aQ, getElem_set_self → mF, length_map → kN, eq_of_mem_replicate → mZ, length → nC, length_replicate → nD, set_set → mJ, map_set → nG
open RowKit.Below renaming heap_alloc → fU, heap_setCell → dM
open Nat renaming le_refl → aC, zero_add → dR, le_of_lt → mX, lt_of_lt_of_le → mY
open Joins renaming cell_of_block → dN, unfrozen_of_block → dP
open Go renaming lt_of_block → fC, heap_alloc_new → fP, results_cell_row → lV, bodyPost_ret → gZ, Value → dU, Calls → aI, below_drewN → lW, results → iH, madeCells → gI, Ending → lZ, World → Wq
open Tryz
set_option maxRecDepth 100000
set_option linter.unusedVariables false
open Tryz renaming prog → Pg
open ChangeShapes WideShapes ChangeAt RowKit Joins Deep
set_option maxHeartbeats 0
variable (t jo:Int)(f:Fr)(xZ fro LD cu jy:Int)(aK:Option Addr)(cK:Nat){W w1:Wq}(V:Wq)(X:Array dU)
section
open Go.Sort
variable {Xb:Ex}
theorem Q9{w w':Wq}{B lo:Nat}{aS aH aF aL:Option Addr}{cS cH cF cL:Nat}{M:Mm}(m:Mine Xb w B lo aS aH aF aL cS cH cF cL M)(hb:Below w.heap.size w w'):Has Xb w' B lo (Up w (Ac B aS aH aF aL)) M/\Fine w w' (Ac B aS aH aF aL) :=
 ⟨⟨_,_,_,_,_,_,_,_,m.below hb,fun k hk=>.inl hk⟩,.of_below _ hb⟩
theorem a8l(M:Mm)(f:Fr)(B lo:Nat)(aS aH aF aL:Option Addr)(cS cH cF cL:Nat)(aK:Option Addr)(cK:Nat)(w:Wq)
  (m:Mine Xb w B lo aS aH aF aL cS cH cF cL M) (hM:Ok M) (hf:Fit M f) (r:Az w aK cK f.t) (hz:∀ ad,aK=some ad->¬ Ac B aS aH aF aL ad.block) :
  aI Pg 158 #[Ae B,Ai f aK cK] w fun e w'=>Ret w w' e (lkF M f) aK cK/\Has Xb w' B lo (Up w (Ac B aS aH aF aL)) (lkM M f)/\Fine w w' (Ac B aS aH aF aL):=by
 unfold Ae Ai
 have ky:(lkF M f).t=f.t:=b0j M f
 have h8:f.l=0\/f.l=1\/f.l=2\/f.l=3\/f.l=4\/f.l=5\/f.l=6\/7<=f.l:=by have:=hf.l;omega
 rcases h8 with hp|hp|hp|hp|hp|hp|hp|hp
 ·rw[lkF0 hp] at ky ⊢;rw[P8 (by omega)]
  exact Lu M f B lo aS aH aF aL cS cH cF cL aK cK w m hf.d (.inl ⟨hp,rfl,rfl⟩) fun W h=>(a8x M f B lo aS aH aF aL cS cH cF cL aK cK W h.m hM hf (r.below h.bl) hz rfl).mono fun e w2 h'=>Dn h h' ky r
 ·rw[lkF1 hp] at ky ⊢;rw[P8 (by omega)]
  exact Lu M f B lo aS aH aF aL cS cH cF cL aK cK w m hf.d (.inr (.inl ⟨hp,rfl,rfl⟩)) fun W h=>(b5c M f B lo aS aH aF aL cS cH cF cL aK cK W h.m hM hf (r.below h.bl) hz rfl).mono fun e w2 h'=>Dn h h' ky r
 ·rw[lkF2 hp] at ky ⊢;rw[P8 (by omega)]
  exact Lu M f B lo aS aH aF aL cS cH cF cL aK cK w m hf.d (.inr (.inr (.inl ⟨hp,rfl,rfl⟩))) fun W h=>(b2z M f B lo aS aH aF aL cS cH cF cL aK cK W h.m hM hf (r.below h.bl) hz rfl).mono fun e w2 h'=>Dn h h' ky r
 ·rw[lkF3 hp] at ky ⊢;rw[lkM3 hp]
  exact Lu M f B lo aS aH aF aL cS cH cF cL aK cK w m hf.d (.inr (.inr (.inr (.inl ⟨hp,rfl,rfl⟩)))) fun W h=>(b2x M f B lo aS aH aF aL cS cH cF cL aK cK W h.m hM hf (r.below h.bl) hz rfl rfl).mono fun e w2 h'=>Dn h h' ky r
 ·rw[lkF4 hp] at ky ⊢;rw[P8 (by omega)]
  exact Lu M f B lo aS aH aF aL cS cH cF cL aK cK w m hf.d (.inr (.inr (.inr (.inr (.inl ⟨hp,rfl,rfl⟩))))) fun W h=>(a8y M f B lo aS aH aF aL cS cH cF cL aK cK W h.m hM hf (r.below h.bl) hz rfl).mono fun e w2 h'=>Dn h h' ky r
 ·rw[lkF5 hp] at ky ⊢;rw[lkM5 hp]
  exact Lu M f B lo aS aH aF aL cS cH cF cL aK cK w m hf.d (.inr (.inr (.inr (.inr (.inr (.inl ⟨hp,rfl,rfl⟩)))))) fun W h=>(a8z M f B lo aS aH aF aL cS cH cF cL aK cK W h.m hM hf (r.below h.bl) hz rfl rfl).mono fun e w2 h'=>Dn h h' ky r
 ·rw[lkF6 hp] at ky ⊢;rw[lkM6 hp]
  exact Lu M f B lo aS aH aF aL cS cH cF cL aK cK w m hf.d (.inr (.inr (.inr (.inr (.inr (.inr (.inl ⟨hp,rfl,rfl⟩))))))) fun W h=>(b2y M f B lo aS aH aF aL cS cH cF cL aK cK W h.m hM hf (r.below h.bl) hz rfl rfl).mono fun e w2 h'=>Dn h h' ky r
 ·rw[lkF7 hp,P8 (by omega)]
  exact Lu M f B lo aS aH aF aL cS cH cF cL aK cK w m hf.d (.inr (.inr (.inr (.inr (.inr (.inr (.inr (⟨hp,rfl,rfl⟩)))))))) fun W h=>(Hf f 0 aK cK W).mono fun e w2 h'=>Dn h ⟨⟨aK,cK,h'.1,(r.below h.bl).below h'.2,fun _ h=>.inl h,fun _=>⟨rfl,rfl⟩⟩,Q9 h.m h'.2⟩ rfl r
end
section
open Go.Sort
variable {Xb:Ex}
theorem b3e(M:Mm)(f:Fr)(B lo:Nat)(aS aH aF aL:Option Addr)(cS cH cF cL:Nat)(aK:Option Addr)(cK:Nat)(w:Wq)(m:Mine Xb w B lo aS aH aF aL cS cH cF cL M)(hM:Ok M)(hf:Fit M f)(hk:f.c.k=2)(r:Az w aK cK f.t)(hz:∀ ad,aK=some ad->¬ Ac B aS aH aF aL ad.block) :
  aI Pg 159 #[Ae B,Ai f aK cK,O J t] w fun e w'=>Ret w w' e (adF M f) aK cK/\Has Xb w' B lo (Up w (Ac B aS aH aF aL)) (adM t M f)/\Fine w w' (Ac B aS aH aF aL):=by
 unfold Ae Ai
 have ky:(adF M f).t=f.t:=a9d M f
 have h8:f.l=0\/f.l=1\/f.l=2\/f.l=3\/f.l=4\/f.l=5\/f.l=6\/f.l=7\/8<=f.l:=by have:=hf.l;omega
 rcases h8 with hp|hp|hp|hp|hp|hp|hp|hp|hp
 ·rw[adF0 hp] at ky ⊢;rw[adM0 hp]
  exact Jm t M f B lo aS aH aF aL cS cH cF cL aK cK w m hf.d (.inl ⟨hp,rfl,rfl⟩) fun W h=>(if hF:M.f.length=0 then a9e M f B lo aS aH aF aL cS cH cF cL aK cK W h.m hM hf (r.below h.bl) hz hk hF else a9f M f B lo aS aH aF aL cS cH cF cL aK cK W h.m hM hf (r.below h.bl) hz hk hF).mono fun e w2 h'=>Dn h h' ky r
 ·rw[adF1 hp] at ky ⊢;rw[adM1 hp]
  exact Jm t M f B lo aS aH aF aL cS cH cF cL aK cK w m hf.d (.inr (.inl ⟨hp,rfl,rfl⟩)) fun W h=>(b2t t M f B lo aS aH aF aL cS cH cF cL aK cK W h.m hM hf (r.below h.bl) hz rfl rfl).mono fun e w2 h'=>Dn h h' ky r
 ·rw[adF2 hp] at ky ⊢;rw[J8 (by omega)]
  exact Jm t M f B lo aS aH aF aL cS cH cF cL aK cK w m hf.d (.inr (.inr (.inl ⟨hp,rfl,rfl⟩))) fun W h=>(a8w M f B lo aS aH aF aL cS cH cF cL aK cK W h.m hM hf (r.below h.bl) hz rfl).mono fun e w2 h'=>Dn h h' ky r
 ·rw[adF3 hp] at ky ⊢;rw[J8 (by omega)]
  exact Jm t M f B lo aS aH aF aL cS cH cF cL aK cK w m hf.d (.inr (.inr (.inr (.inl ⟨hp,rfl,rfl⟩)))) fun W h=>(b4z M f B lo aS aH aF aL cS cH cF cL aK cK W h.m hM hf (r.below h.bl) hz rfl).mono fun e w2 h'=>Dn h h' ky r
 ·rw[adF4 hp] at ky ⊢;rw[J8 (by omega)]
  exact Jm t M f B lo aS aH aF aL cS cH cF cL aK cK w m hf.d (.inr (.inr (.inr (.inr (.inl ⟨hp,rfl,rfl⟩))))) fun W h=>(b2u M f B lo aS aH aF aL cS cH cF cL aK cK W h.m hM hf (r.below h.bl) hz rfl).mono fun e w2 h'=>Dn h h' ky r
 ·rw[adF5 hp] at ky ⊢;rw[adM5 hp]
  exact Jm t M f B lo aS aH aF aL cS cH cF cL aK cK w m hf.d (.inr (.inr (.inr (.inr (.inr (.inl ⟨hp,rfl,rfl⟩)))))) fun W h=>(b3d M f B lo aS aH aF aL cS cH cF cL aK cK W h.m hM hf (r.below h.bl) hz).mono fun e w2 h'=>Dn h h' ky r
 ·rw[adF6 hp] at ky ⊢;rw[adM6 hp]
  exact Jm t M f B lo aS aH aF aL cS cH cF cL aK cK w m hf.d (.inr (.inr (.inr (.inr (.inr (.inr (.inl ⟨hp,rfl,rfl⟩))))))) fun W h=>(a5c M f B lo aS aH aF aL cS cH cF cL aK cK W h.m hM hf (r.below h.bl) hz rfl rfl).mono fun e w2 h'=>Dn h h' ky r
 ·rw[adF7 hp] at ky ⊢;rw[adM7 hp]
  exact Jm t M f B lo aS aH aF aL cS cH cF cL aK cK w m hf.d (.inr (.inr (.inr (.inr (.inr (.inr (.inr (.inl ⟨hp,rfl,rfl⟩)))))))) fun W h=>(a5d t M f B lo aS aH aF aL cS cH cF cL aK cK W h.m hM hf (r.below h.bl) hz rfl rfl).mono fun e w2 h'=>Dn h h' ky r
 ·rw[adF8 hp,J8 (by omega)]
  exact Jm t M f B lo aS aH aF aL cS cH cF cL aK cK w m hf.d (.inr (.inr (.inr (.inr (.inr (.inr (.inr (.inr (⟨hp,rfl,rfl⟩))))))))) fun W h=>(Xf f aK cK W).mono fun e w2 h'=>Dn h ⟨⟨aK,cK,h'.1,(r.below h.bl).below h'.2,fun _ h=>.inl h,fun _=>⟨rfl,rfl⟩⟩,Q9 h.m h'.2⟩ rfl r
end
section
open Go.Sort
variable {Xb:Ex}
theorem b3j(M:Mm)(f:Fr)(B lo:Nat)(aS aH aF aL:Option Addr)(cS cH cF cL:Nat)(aK:Option Addr)(cK:Nat)(w:Wq)(m:Mine Xb w B lo aS aH aF aL cS cH cF cL M)(hM:Ok M)(hf:Fit M f)(hk:f.c.k=3)(r:Az w aK cK f.t)(hz:∀ ad,aK=some ad->¬ Ac B aS aH aF aL ad.block) :
  aI Pg 160 #[Ae B,Ai f aK cK,O J t] w fun e w'=>Ret w w' e (drF M f) aK cK/\Has Xb w' B lo (Up w (Ac B aS aH aF aL)) (drM t M f)/\Fine w w' (Ac B aS aH aF aL):=by
 unfold Ae Ai
 have ky:(drF M f).t=f.t:=a9o M f
 have h8:f.l=0\/f.l=1\/f.l=2\/f.l=3\/f.l=4\/f.l=5\/f.l=6\/7<=f.l:=by have:=hf.l;omega
 rcases h8 with hp|hp|hp|hp|hp|hp|hp|hp
 ·rw[drF0 hp] at ky ⊢;rw[drM0 hp]
  exact Lm t M f B lo aS aH aF aL cS cH cF cL aK cK w m hf.d (.inl ⟨hp,rfl,rfl⟩) fun W h=>(b2v t M f B lo aS aH aF aL cS cH cF cL aK cK W h.m hM hf (r.below h.bl) hz rfl rfl).mono fun e w2 h'=>Dn h h' ky r
 ·rw[drF1 hp] at ky ⊢;rw[Ja (by omega)]
  exact Lm t M f B lo aS aH aF aL cS cH cF cL aK cK w m hf.d (.inr (.inl ⟨hp,rfl,rfl⟩)) fun W h=>(a9p M f B lo aS aH aF aL cS cH cF cL aK cK W h.m hM hf (r.below h.bl) hz).mono fun e w2 h'=>Dn h h' ky r
 ·rw[drF2 hp] at ky ⊢;rw[Ja (by omega)]
  exact Lm t M f B lo aS aH aF aL cS cH cF cL aK cK w m hf.d (.inr (.inr (.inl ⟨hp,rfl,rfl⟩))) fun W h=>(b5b M f B lo aS aH aF aL cS cH cF cL aK cK W h.m hM hf (r.below h.bl) hz rfl).mono fun e w2 h'=>Dn h h' ky r
 ·rw[drF3 hp] at ky ⊢;rw[Ja (by omega)]
  exact Lm t M f B lo aS aH aF aL cS cH cF cL aK cK w m hf.d (.inr (.inr (.inr (.inl ⟨hp,rfl,rfl⟩)))) fun W h=>(b2w M f B lo aS aH aF aL cS cH cF cL aK cK W h.m hM hf (r.below h.bl) hz rfl).mono fun e w2 h'=>Dn h h' ky r
 ·rw[drF4 hp] at ky ⊢;rw[drM4 hp]
  exact Lm t M f B lo aS aH aF aL cS cH cF cL aK cK w m hf.d (.inr (.inr (.inr (.inr (.inl ⟨hp,rfl,rfl⟩))))) fun W h=>(b5p M f B lo aS aH aF aL cS cH cF cL aK cK W h.m hM hf (r.below h.bl) hz).mono fun e w2 h'=>Dn h h' ky r
 ·rw[drF5 hp] at ky ⊢;rw[drM5 hp]
  exact Lm t M f B lo aS aH aF aL cS cH cF cL aK cK w m hf.d (.inr (.inr (.inr (.inr (.inr (.inl ⟨hp,rfl,rfl⟩)))))) fun W h=>(a5e t M f B lo aS aH aF aL cS cH cF cL aK cK W h.m hM hf (r.below h.bl) hz rfl rfl).mono fun e w2 h'=>Dn h h' ky r
 ·rw[drF6 hp] at ky ⊢;rw[drM6 hp]
  exact Lm t M f B lo aS aH aF aL cS cH cF cL aK cK w m hf.d (.inr (.inr (.inr (.inr (.inr (.inr (.inl ⟨hp,rfl,rfl⟩))))))) fun W h=>(b5a M f B lo aS aH aF aL cS cH cF cL aK cK W h.m hM hf (r.below h.bl) hz rfl rfl).mono fun e w2 h'=>Dn h h' ky r
 ·rw[drF7 hp,Ja (by omega)]
  exact Lm t M f B lo aS aH aF aL cS cH cF cL aK cK w m hf.d (.inr (.inr (.inr (.inr (.inr (.inr (.inr (⟨hp,rfl,rfl⟩)))))))) fun W h=>(Qu f aK cK W).mono fun e w2 h'=>Dn h ⟨⟨aK,cK,h'.1,(r.below h.bl).below h'.2,fun _ h=>.inl h,fun _=>⟨rfl,rfl⟩⟩,Q9 h.m h'.2⟩ rfl r
end
section
open Go.Sort
variable {Xb:Ex}
theorem a4p(M:Mm)(f:Fr):(F6 M f).d=f.d:=by
 unfold F6
 split
 ·split
  ·rfl
  ·split <;> rfl
 ·rfl
theorem Jy{w:Wq}{R R':lZ->Wq->Prop}(h:∀ e w',R e w'->R' e w'){e:lZ}{V:Wq}(q:StQ w R e V):StQ w R' e V:=by
 obtain⟨g,a,c,h1,h2,h3,h4⟩:=q
 exact⟨g,a,c,h1,h2,h3,h _ _ h4⟩
theorem a5y(M:Mm)(f:Fr)(B lo:Nat)(aS aH aF aL:Option Addr)(cS cH cF cL:Nat)(aK:Option Addr)(cK:Nat)(w:Wq)(m:Mine Xb w B lo aS aH aF aL cS cH cF cL M)(hM:Ok M)(hf:Fit M f)(hk:f.c.k=4\/f.c.k=5)(r:Az w aK cK f.t)(hz:∀ ad,aK=some ad->¬ Ac B aS aH aF aL ad.block) :
  aI Pg 161 #[Ae B,Ai f aK cK,O J t] w fun e w'=>a9c w w' e (swF M f) aK cK f.t/\Has Xb w' B lo (Up w (Ac B aS aH aF aL)) (swM t M f)/\Fine w w' (Ac B aS aH aF aL):=by
 unfold Ae Ai
 have h8:f.l=0\/f.l=1\/f.l=2\/f.l=3\/f.l=4\/f.l=5\/f.l=6\/7<=f.l:=by have:=hf.l;omega
 rcases h8 with hp|hp|hp|hp|hp|hp|hp|hp
 ·rw[swF0 hp,swM0 hp]
  exact Jz t M f B lo aS aH aF aL cS cH cF cL aK cK w m hf.d (.inl ⟨hp,rfl,rfl⟩) fun W h=>(b3a t M f B lo aS aH aF aL cS cH cF cL aK cK W h.m hM hf (r.below h.bl) hz rfl rfl).mono fun e w2 h'=>Jy (fun e w' q=>⟨q.1.s (by unfold Gm;split <;> exact hf.d) (by unfold Gm;split <;> rfl),q.2⟩) (Dn h h' (by unfold Gm;split <;> rfl) r)
 ·rw[swF1 hp,Ip (by omega)]
  exact Jz t M f B lo aS aH aF aL cS cH cF cL aK cK w m hf.d (.inr (.inl ⟨hp,rfl,rfl⟩)) fun W h=>(b2j M f B lo aS aH aF aL cS cH cF cL aK cK W h.m hM hf (r.below h.bl) hz).mono fun e w2 h'=>Jy (fun e w' q=>⟨q.1.s (hf.d) (rfl),q.2⟩) (Dn h h' (rfl) r)
 ·rw[b4r hp,Ip (by omega)]
  rcases a4q M f B lo aS aH aF aL cS cH cF cL aK cK hM hf hk hz with ⟨vN,vS⟩|vS
  ·exact Jz t M f B lo aS aH aF aL cS cH cF cL aK cK w m hf.d (.inr (.inr (.inl ⟨hp,rfl,rfl⟩))) fun W h=>(vS W h.m (r.below h.bl)).mono fun e w2 h'=>Jy (fun e w' q=>⟨q.1.s ((a4p M f).trans hf.d) (vN),q.2⟩) (Dn h h' (vN) r)
  ·exact Jz t M f B lo aS aH aF aL cS cH cF cL aK cK w m hf.d (.inr (.inr (.inl ⟨hp,rfl,rfl⟩))) fun W h=>(vS W h.m (r.below h.bl)).mono fun e w2 h'=>Jy (fun e w' q=>⟨.inr q.1,q.2⟩) (a5x h h')
 ·rw[swF3 hp,Ip (by omega)]
  exact Jz t M f B lo aS aH aF aL cS cH cF cL aK cK w m hf.d (.inr (.inr (.inr (.inl ⟨hp,rfl,rfl⟩)))) fun W h=>(b3b M f B lo aS aH aF aL cS cH cF cL aK cK W h.m hM hf (r.below h.bl) hz rfl).mono fun e w2 h'=>Jy (fun e w' q=>⟨q.1.s (by unfold Lc;split <;> exact hf.d) (by unfold Lc;split <;> rfl),q.2⟩) (Dn h h' (by unfold Lc;split <;> rfl) r)
 ·rw[swF4 hp,swM4 hp]
  exact Jz t M f B lo aS aH aF aL cS cH cF cL aK cK w m hf.d (.inr (.inr (.inr (.inr (.inl ⟨hp,rfl,rfl⟩))))) fun W h=>(b4s M f B lo aS aH aF aL cS cH cF cL aK cK W h.m hM hf (r.below h.bl) hz).mono fun e w2 h'=>Jy (fun e w' q=>⟨q.1.s (by unfold Mc;split <;> exact hf.d) (by unfold Mc;split <;> rfl),q.2⟩) (Dn h h' (by unfold Mc;split <;> rfl) r)
 ·rw[swF5 hp,swM5 hp]
  exact Jz t M f B lo aS aH aF aL cS cH cF cL aK cK w m hf.d (.inr (.inr (.inr (.inr (.inr (.inl ⟨hp,rfl,rfl⟩)))))) fun W h=>(b5d M f B lo aS aH aF aL cS cH cF cL aK cK W h.m hM hf (r.below h.bl) hz rfl rfl).mono fun e w2 h'=>Jy (fun e w' q=>⟨q.1.s (by unfold Oj;split <;> exact hf.d) (by unfold Oj;split <;> rfl),q.2⟩) (Dn h h' (by unfold Oj;split <;> rfl) r)
 ·rw[swF6 hp,swM6 hp]
  exact Jz t M f B lo aS aH aF aL cS cH cF cL aK cK w m hf.d (.inr (.inr (.inr (.inr (.inr (.inr (.inl ⟨hp,rfl,rfl⟩))))))) fun W h=>(a5f t M f B lo aS aH aF aL cS cH cF cL aK cK W h.m hM hf (r.below h.bl) hz rfl rfl).mono fun e w2 h'=>Jy (fun e w' q=>⟨.inr q.1,q.2⟩) (a5x h h')
 ·rw[swF7 hp,Ip (by omega)]
  exact Jz t M f B lo aS aH aF aL cS cH cF cL aK cK w m hf.d (.inr (.inr (.inr (.inr (.inr (.inr (.inr (⟨hp,rfl,rfl⟩)))))))) fun W h=>(Rx f aK cK W).mono fun e w2 h'=>Jy (fun e w' q=>⟨q.1.s hf.d rfl,q.2⟩) (Dn h ⟨⟨aK,cK,h'.1,(r.below h.bl).below h'.2,fun _ h=>.inl h,fun _=>⟨rfl,rfl⟩⟩,Q9 h.m h'.2⟩ rfl r)
end
theorem a5m{Xb:Ex}{w:Wq}{B lo:Nat}{aS aH aF aL:Option Addr}{cS cH cF cL:Nat}{M:Mm}(m:Mine Xb w B lo aS aH aF aL cS cH cF cL M):∀ k,Ac B aS aH aF aL k->k<w.heap.size:=by
 rintro k (rfl|⟨ad,rfl,rfl⟩|⟨ad,rfl,rfl⟩|⟨ad,rfl,rfl⟩|⟨ad,rfl,rfl⟩)
 ·exact fC m.box
 ·exact(m.c.s.lt ad.block rfl).2
 ·exact(m.c.h.lt ad.block rfl).2
 ·exact(m.c.f.lt ad.block rfl).2
 ·exact(m.c.l.lt ad.block rfl).2
theorem a0e{M:Mm}{f:Fr}(h:Fit M f):(swF M f).t.length<=1000:=by
 have hk:=h.t
 rcases b2i M f with e|⟨-,h1,e⟩
 ·rw[e];omega
 ·rw[e,List.length_append];simp;omega
theorem Nr{Xb:Ex}(M:Mm)(B lo:Nat)(aS aH aF aL:Option Addr)(cS cH cF cL:Nat)(g cT dw i:Nat)(l:List (Tk × TkV))(w:Wq)(m:Mine Xb w B lo aS aH aF aL cS cH cF cL M)(hM:Ok M)(T:Cf w dw g cT l)(hi:i<l.length)(ap:∀ k,Ac B aS aH aF aL k->¬ TB g l k)(hsl:∀ a∈l[i].1.u,Dp M a=true)(kz:∀ p∈l,∀ a,p.2.aK=some a->a.block<w.heap.size){f:Fr}{aK:Option Addr}{cK:Nat}(hff:f=l[i].1.f)(VC:aK=l[i].2.aK)(hcK:cK=l[i].2.cK){n:Nat}{ar:Array dU}{G:Fr}{N:Mm}
  (hn:f.c.k=1/\n=158/\ar=#[Ae B,Ai f aK cK]\/f.c.k=2/\n=159/\ar=#[Ae B,Ai f aK cK,O J (i:Int)]\/f.c.k=3/\n=160/\ar=#[Ae B,Ai f aK cK,O J (i:Int)]\/f.c.k=4/\n=161/\ar=#[Ae B,Ai f aK cK,O J (i:Int)]\/f.c.k=5/\n=161/\ar=#[Ae B,Ai f aK cK,O J (i:Int)])
  (HS:∀ W:Wq,Mine Xb W B lo aS aH aF aL cS cH cF cL M->Az W aK cK f.t->(∀ ad,aK=some ad->¬ Ac B aS aH aF aL ad.block)->aI Pg n ar W fun e w'=>(∃ a c,e=.returned (.agg #[O J G.c.k,O J G.c.a,O J G.c.b,O J G.c.t,O J G.c.q,O J G.c.h,O J G.l,O J G.u,O J G.p,O J G.h,O J G.n,Y a G.t.length c,.bool G.d,O J G.e])/\Az w' a c G.t/\∀ ad,a=some ad->aK=some ad\/W.heap.size<=ad.block)/\Has Xb w' B lo (Up W (Ac B aS aH aF aL)) N/\Fine W w' (Ac B aS aH aF aL)) :
  aI Pg 142 #[Ae B,.pointer (some ⟨g,i*16,none⟩),O J (i:Int)] w (Yb Xb w B lo (Ac B aS aH aF aL) dw g cT l i N G l[i].1.u):=by
 unfold Ae
 have qP:=bJ hi
 have vT:=T.glo.2
 have c1:w.cell? ⟨g,i*16+1,none⟩=some (O J l[i].1.f.c.k):=T.cell (q:=1) hi (by decide)
 obtain⟨oz,bi⟩:∃ o:Obj,o=.cells #[O J 0,O J 0,O J 0,O J 0,O J 0,O J 0,O J 0,O J 0,O J 0,O J 0,O J 0,Y none 0 0,.bool false,O J 0] 47:=⟨_,rfl⟩
 have b0:Below w.heap.size w (w.alloc oz):=A7 w oz
 have rC:Qi ((w.alloc oz).heap[w.heap.size]?=some oz):=fP w oz
 have wu:Qi (Cf (w.alloc oz) dw g cT l):=T.below b0
 have xR:=a5m m
 have m0:=m.below b0
 have xQ:Az (w.alloc oz) l[i].2.aK l[i].2.cK l[i].1.f.t:=(T.t _ qP).below b0
 have ng:∀ ad,l[i].2.aK=some ad->¬ Ac B aS aH aF aL ad.block:=fun ad e h=>ap _ h (.inr (.inr ⟨_,qP,ad,e,rfl⟩))
 have lF:Qi ((w.alloc oz).rangeAt g (i*16+1) (f.enc aK cK)):=by rw[hff,VC,hcK];exact wu.o.Rn hi
 rw[<- hff] at c1 xQ
 rw[<- VC,<- hcK] at xQ
 rw[<- VC] at ng
 have HaK:Qi (aK=l[i].2.aK):=VC
 have uk:Qi (aI Pg n ar (w.alloc oz) fun e w'=>(∃ a c,e=.returned (.agg #[O J G.c.k,O J G.c.a,O J G.c.b,O J G.c.t,O J G.c.q,O J G.c.h,O J G.l,O J G.u,O J G.p,O J G.h,O J G.n,Y a G.t.length c,.bool G.d,O J G.e])/\Az w' a c G.t/\∀ ad,a=some ad->aK=some ad\/(w.alloc oz).heap.size<=ad.block)/\Has Xb w' B lo (Up (w.alloc oz) (Ac B aS aH aF aL)) N/\Fine (w.alloc oz) w' (Ac B aS aH aF aL)):=HS _ m0 xQ ng
 have YE:Qi (∀ k,Ac B aS aH aF aL k->¬ TB g l k):=ap
 have HFz:Qi (∀ k,Ac B aS aH aF aL k->k<w.heap.size):=xR
 have PT:Qi (∀ p∈l,∀ a,p.2.aK=some a->a.block<w.heap.size):=kz
 have HTl:Qi (∀ p∈l,∀ a,p.2.aH=some a->a.block<w.heap.size):=fun p hp a ha=>(T.hlo hp ha).2
 have YJ:(w.alloc oz).heap.size=w.heap.size+1:=by simp
 clear m T ap hsl kz hff VC hcK m0 xQ ng hM xR HS
 subst bi
 rcases hn with ⟨hk,rfl,rfl⟩|⟨hk,rfl,rfl⟩|⟨hk,rfl,rfl⟩|⟨hk,rfl,rfl⟩|⟨hk,rfl,rfl⟩
 all_goals
  rw[hk] at c1
  clear hk
  go_enter func142,ntmps142
  go_wp2_with (refine Xy rfl _ rfl rfl lF.o ?_)
  clear lF c1
  obtain⟨W0,zo⟩:∃ W0,W0=w.alloc (.cells #[O J 0,O J 0,O J 0,O J 0,O J 0,O J 0,O J 0,O J 0,O J 0,O J 0,O J 0,Y none 0 0,.bool false,O J 0] 47):=⟨_,rfl⟩
  rw[<- zo] at rC wu uk b0 YJ ⊢
  clear zo
  refine uk.o.mono ?_
  rintro e w1 ⟨⟨a1,c1,rfl,ry,wX⟩,MJ,EY⟩
  have tN:Qi (w1.heap[w.heap.size]?=_):=(EY.block _ (fC rC.o) (fun h=>by have:=HFz.o _ h;omega)).trans rC.o
  have vP:Qi (Cf w1 dw g cT l):=wu.o.fine EY YE.o
  have t3:Qi (w1.there w.heap.size 0 14):=Be tN.o (by simp)
  have vK:Qi ((w1.setCells w.heap.size 0 (G.enc a1 c1)).heap[w.heap.size]?=some (.cells #[O J G.c.k,O J G.c.a,O J G.c.b,O J G.c.t,O J G.c.q,O J G.c.h,O J G.l,O J G.u,O J G.p,O J G.h,O J G.n,Y a1 G.t.length c1,.bool G.d,O J G.e] 47 (0,0))):=Bi tN.o rfl
  have vJ:Qi (Has Xb (w1.setCells w.heap.size 0 (G.enc a1 c1)) B lo (Up w (Ac B aS aH aF aL)) N):=(MJ.mono fun j _ h=>h.imp id (fun h=>by omega)).cells tN.o _
  have rX:Qi (Cf (w1.setCells w.heap.size 0 (G.enc a1 c1)) dw g cT l):=vP.o.same fun k hk yc=>Af (fun e=>by
   subst e
   rcases yc with h|⟨p,hp,a,ha,h⟩|⟨p,hp,a,ha,h⟩
   ·omega
   ·have:=HTl.o p hp a ha;omega
   ·have:=PT.o p hp a ha;omega) _ _ _
  have DU:Qi (Fine w (w1.setCells w.heap.size 0 (G.enc a1 c1)) (fun k=>Ac B aS aH aF aL k\/TB g l k)):=Hu (((Fine.of_below _ b0:Fine w W0 (Ac B aS aH aF aL)).trans EY (fun j _ h=>h)).mono fun k h=>.inl h) (.inr (aC _))
  have NY:∀ ad,a1=some ad->l[i].2.aK=some ad\/w.heap.size<ad.block:=fun ad e=>(wX ad e).imp (fun h=>by rw[<- HaK.o];exact h) (fun h=>by omega)
  have uU:Qi (Az (w1.setCells w.heap.size 0 (G.enc a1 c1)) a1 c1 G.t):=Eo ry fun _ ad e _=>Af (by
   rcases NY ad e with h|h
   ·have:=PT.o _ qP ad h;omega
   ·omega) _ _ _
  have BX:Qi (∀ ad,a1=some ad->l[i].2.aK=some ad\/w.heap.size<=ad.block):=fun ad e=>(NY ad e).imp id (fun h=>by omega)
  clear ry wX MJ EY rC wu tN vP b0 uk NY
  go_wp2_with (refine Bl (f:=G) rfl _ _ rfl rfl rfl t3.o ?_)
  clear t3
  generalize w1.setCells w.heap.size 0 (G.enc a1 c1)=W4 at *
  refine gZ (lV results142 _ W4 w.heap.size 47 _ (0,0) _ rfl vK.o underlying47 rfl (by kernel_rfl)) rfl ?_
  exact⟨a1,c1,rfl,uU.o,fun ad e=>(BX.o ad e).imp (fun h=>⟨hi,h⟩) id,vJ.o,⟨hi,by have h:=set_self hi;exact h.symm ▸ rX.o⟩,DU.o⟩
theorem a4o{Xb:Ex}(M:Mm)(B lo:Nat)(aS aH aF aL:Option Addr)(cS cH cF cL:Nat)(g cT dw i:Nat)(l:List (Tk × TkV))(w:Wq)(m:Mine Xb w B lo aS aH aF aL cS cH cF cL M)(hM:Ok M)(T:Cf w dw g cT l)(hi:i<l.length)(ap:∀ k,Ac B aS aH aF aL k->¬ TB g l k)(hsl:∀ a∈l[i].1.u,Dp M a=true)(kz:∀ p∈l,∀ a,p.2.aK=some a->a.block<w.heap.size)(hk:l[i].1.f.c.k=6) :
  aI Pg 142 #[Ae B,.pointer (some ⟨g,i*16,none⟩),O J (i:Int)] w (Yb Xb w B lo (Ac B aS aH aF aL) dw g cT l i (if l[i].1.f.c.h∈l[i].1.u then Ff M l[i].1.f.c.h else M) (Ak l[i].1.f 0) (l[i].1.u.erase l[i].1.f.c.h)):=by
 unfold Ae
 have qP:=bJ hi
 have vT:=T.glo.2
 have c1:w.cell? ⟨g,i*16+1,none⟩=some (O J 6):=by rw[<- hk];exact T.cell (q:=1) hi (by decide)
 obtain⟨oz,bi⟩:∃ o:Obj,o=.cells #[O J 0,O J 0,O J 0,O J 0,O J 0,O J 0,O J 0,O J 0,O J 0,O J 0,O J 0,Y none 0 0,.bool false,O J 0] 47:=⟨_,rfl⟩
 have b0:Below w.heap.size w (w.alloc oz):=A7 w oz
 have rC:Qi ((w.alloc oz).heap[w.heap.size]?=some oz):=fP w oz
 have xR:=a5m m
 have YJ:(w.alloc oz).heap.size=w.heap.size+1:=by simp
 have uk:Qi (aI Pg 162 #[Ae B,.pointer (some ⟨g,i*16,none⟩)] (w.alloc oz) (Yb Xb (w.alloc oz) B lo (Ac B aS aH aF aL) dw g cT l i (if l[i].1.f.c.h∈l[i].1.u then Ff M l[i].1.f.c.h else M) (Ak l[i].1.f 0) (l[i].1.u.erase l[i].1.f.c.h))) :=
  a7g M B lo (Ac B aS aH aF aL) g cT dw i l _ ⟨aS,aH,aF,aL,cS,cH,cF,cL,m.below b0,fun _ h=>h⟩ hM (T.below b0) hi ap hsl (fun p hp a ha=>by have:=kz p hp a ha;omega) (fun k h=>by have:=xR k h;omega)
 obtain⟨G,hG⟩:∃ G,G=Ak l[i].1.f 0:=⟨_,rfl⟩
 obtain⟨N,hN⟩:∃ N,N=if l[i].1.f.c.h∈l[i].1.u then Ff M l[i].1.f.c.h else M:=⟨_,rfl⟩
 obtain⟨h',QM⟩:∃ h',h'=l[i].1.u.erase l[i].1.f.c.h:=⟨_,rfl⟩
 rw[<- hG,<- hN,<- QM] at uk ⊢
 have HFz:Qi (∀ k,Ac B aS aH aF aL k->k<w.heap.size):=xR
 have PT:Qi (∀ p∈l,∀ a,p.2.aK=some a->a.block<w.heap.size):=kz
 have HTl:Qi (∀ p∈l,∀ a,p.2.aH=some a->a.block<w.heap.size):=fun p hp a ha=>(T.hlo hp ha).2
 have wM:Qi (¬ TB g l w.heap.size):=by
  rintro (h|⟨p,hp,a,ha,h⟩|⟨p,hp,a,ha,h⟩)
  ·omega
  ·have:=HTl.o p hp a ha;omega
  ·have:=PT.o p hp a ha;omega
 clear m T ap hsl kz hG hN hM xR hk QM
 subst bi
 go_enter func142,ntmps142
 go_wp2_with fail
 clear c1
 obtain⟨W0,zo⟩:∃ W0,W0=w.alloc (.cells #[O J 0,O J 0,O J 0,O J 0,O J 0,O J 0,O J 0,O J 0,O J 0,O J 0,O J 0,Y none 0 0,.bool false,O J 0] 47):=⟨_,rfl⟩
 rw[<- zo] at rC uk b0 YJ ⊢
 clear zo
 refine uk.o.mono ?_
 rintro e w1 ⟨a1,c1,rfl,ry,wX,MJ,⟨hiq,OT⟩,EY⟩
 have tN:Qi (w1.heap[w.heap.size]?=_):=(EY.block _ (fC rC.o) (fun h=>h.elim (fun h=>by have:=HFz.o _ h;omega) wM.o)).trans rC.o
 have t3:Qi (w1.there w.heap.size 0 14):=Be tN.o (by simp)
 have vK:Qi ((w1.setCells w.heap.size 0 (G.enc a1 c1)).heap[w.heap.size]?=some (.cells #[O J G.c.k,O J G.c.a,O J G.c.b,O J G.c.t,O J G.c.q,O J G.c.h,O J G.l,O J G.u,O J G.p,O J G.h,O J G.n,Y a1 G.t.length c1,.bool G.d,O J G.e] 47 (0,0))):=Bi tN.o rfl
 have vJ:Qi (Has Xb (w1.setCells w.heap.size 0 (G.enc a1 c1)) B lo (Up w (Ac B aS aH aF aL)) N):=(MJ.mono fun j _ h=>h.imp id (fun h=>by omega)).cells tN.o _
 have rX:Qi (Cf (w1.setCells w.heap.size 0 (G.enc a1 c1)) dw g cT (l.set i (⟨l[i].1.b,l[i].1.f,h'⟩,l[i].2))):=OT.same fun k hk yc=>Af (fun e=>by
  subst e
  rcases yc with h|⟨p,hp,a,ha,h⟩|⟨p,hp,a,ha,h⟩
  ·omega
  ·have h2:=OT.u p hp
   rw[ha] at h2
   exact own_ne h2 tN.o (by decide) (by show some a.block=_;rw[h])
  ·rcases Jw hi hp with rfl|vS
   ·have:=PT.o _ qP a ha;omega
   ·have:=PT.o p vS a ha;omega) _ _ _
 have DU:Qi (Fine w (w1.setCells w.heap.size 0 (G.enc a1 c1)) (fun k=>Ac B aS aH aF aL k\/TB g l k)):=Hu ((Fine.of_below _ b0:Fine w W0 (fun k=>Ac B aS aH aF aL k\/TB g l k)).trans EY (fun j _ h=>h)) (.inr (aC _))
 have NY:∀ ad,a1=some ad->l[i].2.aK=some ad\/w.heap.size<ad.block:=fun ad e=>(wX ad e).imp (fun ⟨_,h⟩=>h) (fun h=>by omega)
 have uU:Qi (Az (w1.setCells w.heap.size 0 (G.enc a1 c1)) a1 c1 G.t):=Eo ry fun _ ad e _=>Af (by
  rcases NY ad e with h|h
  ·have:=PT.o _ qP ad h;omega
  ·omega) _ _ _
 have BX:Qi (∀ ad,a1=some ad->l[i].2.aK=some ad\/w.heap.size<=ad.block):=fun ad e=>(NY ad e).imp id (fun h=>by omega)
 clear ry wX MJ EY rC tN OT b0 uk NY
 go_wp2_with (refine Bl (f:=G) rfl _ _ rfl rfl rfl t3.o ?_)
 clear t3
 generalize w1.setCells w.heap.size 0 (G.enc a1 c1)=W4 at *
 refine gZ (lV results142 _ W4 w.heap.size 47 _ (0,0) _ rfl vK.o underlying47 rfl (by kernel_rfl)) rfl ?_
 exact⟨a1,c1,rfl,uU.o,fun ad e=>(BX.o ad e).imp (fun h=>⟨hi,h⟩) id,vJ.o,⟨hi,rX.o⟩,DU.o⟩
def Pi(t:Tk):List Int:=if t.f.c.k=6 then t.u.erase t.f.c.h else t.u
theorem b2g{Xb:Ex}(M:Mm)(B lo:Nat)(aS aH aF aL:Option Addr)(cS cH cF cL:Nat)(g cT dw i:Nat)(l:List (Tk × TkV))(w:Wq)(m:Mine Xb w B lo aS aH aF aL cS cH cF cL M)(hM:Ok M)(T:Cf w dw g cT l)(hi:i<l.length)(ap:∀ k,Ac B aS aH aF aL k->¬ TB g l k)(hsl:∀ a∈l[i].1.u,Dp M a=true)(kz:∀ p∈l,∀ a,p.2.aK=some a->a.block<w.heap.size)(hf:Fit M l[i].1.f) :
  aI Pg 142 #[Ae B,.pointer (some ⟨g,i*16,none⟩),O J (i:Int)] w (Yb Xb w B lo (Ac B aS aH aF aL) dw g cT l i (stepT M i l[i].1).1 (stepT M i l[i].1).2.f (Pi l[i].1)):=by
 unfold Ae
 have hk:=Ye hf.call
 unfold stepT Pi
 by_cases h1:l[i].1.f.c.k=1
 ·rw[af h1,ae (by omega)]
  exact Nr M B lo aS aH aF aL cS cH cF cL g cT dw i l w m hM T hi ap hsl kz rfl rfl rfl (.inl ⟨h1,rfl,rfl⟩) fun W m' r' z'=>(a8l M _ B lo aS aH aF aL cS cH cF cL _ _ W m' hM hf r' z').mono fun e w' h=>by obtain⟨⟨a,c,h1,h2,h3,-⟩,h4⟩:=h;exact⟨⟨a,c,h1,h2,h3⟩,h4⟩
 rw[ae h1]
 by_cases h2:l[i].1.f.c.k=2
 ·rw[af h2,ae (by omega)]
  exact Nr M B lo aS aH aF aL cS cH cF cL g cT dw i l w m hM T hi ap hsl kz rfl rfl rfl (.inr (.inl ⟨h2,rfl,rfl⟩)) fun W m' r' z'=>(b3e i M _ B lo aS aH aF aL cS cH cF cL _ _ W m' hM hf h2 r' z').mono fun e w' h=>by obtain⟨⟨a,c,h1,h2,h3,-⟩,h4⟩:=h;exact⟨⟨a,c,h1,h2,h3⟩,h4⟩
 rw[ae h2]
 by_cases h3:l[i].1.f.c.k=3
 ·rw[af h3,ae (by omega)]
  exact Nr M B lo aS aH aF aL cS cH cF cL g cT dw i l w m hM T hi ap hsl kz rfl rfl rfl (.inr (.inr (.inl ⟨h3,rfl,rfl⟩))) fun W m' r' z'=>(b3j i M _ B lo aS aH aF aL cS cH cF cL _ _ W m' hM hf h3 r' z').mono fun e w' h=>by obtain⟨⟨a,c,h1,h2,h3,-⟩,h4⟩:=h;exact⟨⟨a,c,h1,h2,h3⟩,h4⟩
 rw[ae h3]
 by_cases h6:l[i].1.f.c.k=6
 ·rw[af h6,af h6]
  exact a4o M B lo aS aH aF aL cS cH cF cL g cT dw i l w m hM T hi ap hsl kz h6
 rw[ae h6,ae h6]
 by_cases h4:l[i].1.f.c.k=4
 ·exact Nr M B lo aS aH aF aL cS cH cF cL g cT dw i l w m hM T hi ap hsl kz rfl rfl rfl (.inr (.inr (.inr (.inl ⟨h4,rfl,rfl⟩)))) fun W m' r' z'=>(a5y i M _ B lo aS aH aF aL cS cH cF cL _ _ W m' hM hf (.inl h4) r' z').mono fun e w' h=>⟨h.1.three (a0e hf),h.2⟩
 ·exact Nr M B lo aS aH aF aL cS cH cF cL g cT dw i l w m hM T hi ap hsl kz rfl rfl rfl (.inr (.inr (.inr (.inr ⟨by omega,rfl,rfl⟩)))) fun W m' r' z'=>(a5y i M _ B lo aS aH aF aL cS cH cF cL _ _ W m' hM hf (.inr (by omega)) r' z').mono fun e w' h=>⟨h.1.three (a0e hf),h.2⟩
section
open Maps
theorem Vd{n0 B lo dw g cT n:Nat}{Z:Nat->Prop}{M:Mm}{l:List (Tk × TkV)}{w w':Wq}(H:Has (Xw (some ⟨g,0,none⟩) n cT) w' B lo Z M)(T:Cf w' dw g cT l)(hn:l.length=n)(hlo:n0<=lo)(hlo2:n0<=dw)(hb:Kept w w' B n0){ts:List Tk}(tC:l.map (·.1)=ts):WP n0 B ⟨M,ts⟩ w w':=by
 obtain⟨aS,aH,aF,aL,cS,cH,cF,cL,m,-⟩:=H
 subst hn
 exact⟨aS,aH,aF,aL,cS,cH,cF,cL,some ⟨g,0,none⟩,cT,l,m.box,m.at,m.c.hi.mono hlo,T.a8q,T.thi.mono hlo2,tC,hb⟩
theorem WM.foot{w:Wq}{n0 B lo dw:Nat}{aS aH aF aL:Option Addr}{cS cH cF cL:Nat}{M:Mm}{g cT n:Nat}{l:List (Tk × TkV)}(h:WM w n0 B lo dw aS aH aF aL cS cH cF cL M g cT n l):∀ k,Ac B aS aH aF aL k\/TB g l k->k=B\/n0<=k:=by
 have h2:=h.hlo;have h3:=h.hlo2
 have hi:=h.m.c.hi
 rintro k ((rfl|⟨ad,e,rfl⟩|⟨ad,e,rfl⟩|⟨ad,e,rfl⟩|⟨ad,e,rfl⟩)|(rfl|⟨p,hp,a,ha,rfl⟩|⟨p,hp,a,ha,rfl⟩))
 ·exact .inl rfl
 ·have:=hi.s ad e;exact .inr (by omega)
 ·have:=hi.h ad e;exact .inr (by omega)
 ·have:=hi.f ad e;exact .inr (by omega)
 ·have:=hi.l ad e;exact .inr (by omega)
 ·have:=h.t.glo.1;exact .inr (by omega)
 ·have:=(h.t.hlo hp ha).1;exact .inr (by omega)
 ·have:=h.t.klo p hp a ha;exact .inr (by omega)
theorem WM.size{w:Wq}{n0 B lo dw:Nat}{aS aH aF aL:Option Addr}{cS cH cF cL:Nat}{M:Mm}{g cT n:Nat}{l:List (Tk × TkV)}(h:WM w n0 B lo dw aS aH aF aL cS cH cF cL M g cT n l):n0<=w.heap.size:=by
 have h1:=h.hlo2;have h2:=h.t.glo
 omega
theorem WM.kept{w w':Wq}{n0 B lo dw:Nat}{aS aH aF aL:Option Addr}{cS cH cF cL:Nat}{M:Mm}{g cT n:Nat}{l:List (Tk × TkV)}(h:WM w n0 B lo dw aS aH aF aL cS cH cF cL M g cT n l)(hf:Fine w w' (fun k=>Ac B aS aH aF aL k\/TB g l k)):Kept w w' B n0 :=
 ⟨hf.os,hf.tape,hf.output,hf.size,fun k hk iw=>hf.block k (mY hk h.size) (fun hz=>(h.foot k hz).elim iw (fun h'=>by omega))⟩
theorem a4m(M:Mm)(i:Nat)(t:Tk):(stepT M i t).2=⟨!(stepT M i t).2.f.d,(stepT M i t).2.f,if (stepT M i t).2.f.d=true/\(stepT M i t).2.f.c.k=1/\(stepT M i t).2.f.e=0 then Pi t ++ [(stepT M i t).2.f.h] else Pi t⟩:=by
 have hk:=a4n M i t
 rw[hk]
 by_cases h1:t.f.c.k=1
 ·have e:stepT M i t=(lkM M t.f,a4s M t):=by unfold stepT;rw[af h1]
  have e':Pi t=t.u:=by unfold Pi;rw[ae (by omega)]
  rw[e,e']
  unfold a4s
  dsimp only
  by_cases hd:(lkF M t.f).d=true
  ·by_cases he:(lkF M t.f).e=0
   ·have c1:((lkF M t.f).d && (lkF M t.f).e==0)=true:=by simp[hd,he]
    have c2:(lkF M t.f).d=true/\t.f.c.k=1/\(lkF M t.f).e=0:=⟨hd,h1,he⟩
    rw[af c1,af c2]
   ·have c1:¬ ((lkF M t.f).d && (lkF M t.f).e==0)=true:=by simp[he]
    have c2:¬ ((lkF M t.f).d=true/\t.f.c.k=1/\(lkF M t.f).e=0):=fun h=>he h.2.2
    rw[ae c1,ae c2]
  ·have c1:¬ ((lkF M t.f).d && (lkF M t.f).e==0)=true:=by simp[hd]
   have c2:¬ ((lkF M t.f).d=true/\t.f.c.k=1/\(lkF M t.f).e=0):=fun h=>hd h.1
   rw[ae c1,ae c2]
 ·have c2:¬ ((stepT M i t).2.f.d=true/\t.f.c.k=1/\(stepT M i t).2.f.e=0):=fun h=>h1 h.2.1
  rw[ae c2]
  unfold stepT Pi
  rw[ae h1]
  by_cases h2:t.f.c.k=2
  ·have h6:¬ t.f.c.k=6:=by omega
   rw[af h2,ae h6];rfl
  rw[ae h2]
  by_cases h3:t.f.c.k=3
  ·have h6:¬ t.f.c.k=6:=by omega
   rw[af h3,ae h6];rfl
  rw[ae h3]
  by_cases h6:t.f.c.k=6
  ·rw[af h6,af h6];rfl
  ·rw[ae h6,ae h6];rfl
theorem a6y{w:Wq}{n0 B lo dw:Nat}{aS aH aF aL:Option Addr}{cS cH cF cL:Nat}{M:Mm}{g cT n i:Nat}{l:List (Tk × TkV)}(h:WM w n0 B lo dw aS aH aF aL cS cH cF cL M g cT n l)(hi:i<l.length)(hb:l[i].1.b=false) :
  aI Pg 106 #[Ae B,O J (i:Int)] w fun e w'=>e=.returned (O J 8)/\w'=w:=by
 unfold Ae
 obtain⟨q0,q1,q2,q3,q4,q5,qs⟩:=Bh h.m.box
 have d0:=(h.t.b hi).1
 rw[hb] at d0
 have hn:(i:Int)<(n:Int):=by rw[<- h.len];omega
 have yE:n<=5:=by rw[<- h.len];exact h.t.few
 clear h hb
 go_enter func106,ntmps106
 go_wp2
 go_ret
 exact⟨rfl,rfl⟩
theorem a9w{w W3 w2:Wq}{n0 B lo dw:Nat}{aS aH aF aL:Option Addr}{cS cH cF cL:Nat}{M N:Mm}{g cT n i g2 eu:Nat}{l:List (Tk × TkV)}{F:Fr}{H:List Int}{a:Option Addr}{c:Nat}{t':Tk}{o:Obj}(h:WM w n0 B lo dw aS aH aF aL cS cH cF cL M g cT n l)(hi:i<l.length)
  (T:Cf W3 dw g cT (l.set i (⟨false,F,H⟩,⟨a,c,l[i].2.aH,l[i].2.cH⟩))) (HH:Has (Xw (some ⟨g,0,none⟩) n cT) W3 B lo (Up w (Ac B aS aH aF aL)) N) (hf:Fine w W3 (fun k=>Ac B aS aH aF aL k\/TB g l k))
  (ht:t'=⟨!F.d,F,if F.d=true/\F.c.k=1/\F.e=0 then H ++ [F.h] else H⟩) (hd:F.d=true) (tJ:F.c.k=1/\F.e=0)
  (ho:w2.ownsRow dw 3 1 (Y (some ⟨g2,0,none⟩) (H.length+1) eu) (H.length+1) (encI H ++ [O J F.h])) (hg:(W3.alloc o).grownBy w2 (eX l[i].2.aH H.length l[i].2.cH).ownBlock)
  (hl:(some g2:Option Nat)=(eX l[i].2.aH H.length l[i].2.cH).ownBlock\/some g2=some (W3.alloc o).heap.size) (hn:H.length<=100) :
  WP n0 B ⟨N,(l.map (·.1)).set i t'⟩ w (w2.setCell ⟨g,i*16+15,none⟩ (Y (some ⟨g2,0,none⟩) (H.length+1) eu)):=by
 have qP:=bJ hi
 have zU:∀ k,k<W3.heap.size->(∀ ad,l[i].2.aH=some ad->k≠ad.block)->w2.heap[k]?=W3.heap[k]?:=fun k hk iw=>by
  refine(hg.block k (by simp;omega) (fun e=>?_)).trans (fU _ _ _ hk)
  cases ha:l[i].2.aH with
  | none=>rw[ha] at e;cases e
  | some ad=>rw[ha] at e;injection e with e;exact iw ad ha e
 have CO:i<(l.set i (⟨false,F,H⟩,(⟨a,c,l[i].2.aH,l[i].2.cH⟩:TkV))).length:=by rw[dZ];exact hi
 have OH:(l.set i (⟨false,F,H⟩,(⟨a,c,l[i].2.aH,l[i].2.cH⟩:TkV)))[i]'CO=(⟨false,F,H⟩,⟨a,c,l[i].2.aH,l[i].2.cH⟩):=mF ..
 have hz:(W3.alloc o).heap.size=W3.heap.size+1:=by simp
 have T4:=T.setH (w1:=w2) CO (H ++ [F.h]) (some ⟨g2,0,none⟩) eu (by simp;omega) (by
  rw[show (H ++ [F.h]).length=H.length+1 by simp,show encI (H ++ [F.h])=encI H ++ [O J F.h] by simp[encI]]
  exact ho) (by rw[OH];exact zU) (fun x hx=>by
  rw[OH]
  injection hx with hx
  subst hx
  rcases hl with e|e
  ·cases ha:l[i].2.aH with
   | none=>rw[ha] at e;cases e
   | some ad=>rw[ha] at e;injection e with e;exact .inl ⟨ad,rfl,e⟩
  ·injection e with e
   exact .inr (by show W3.heap.size<=g2;omega))
 rw[OH,mJ,show (H ++ [F.h]).length=H.length+1 by simp] at T4
 have vT:=h.t.glo
 have zO:w.heap.size<=W3.heap.size:=hf.size
 have uq:∀ k,k≠g->(w2.setCell ⟨g,i*16+15,none⟩ (Y (some ⟨g2,0,none⟩) (H.length+1) eu)).heap[k]?=w2.heap[k]?:=fun k hk=>dM _ _ _ _ (by dsimp only;exact hk)
 refine Vd (Z:=Up w (Ac B aS aH aF aL)) (HH.same (by rw[eQ];have:=hg.size;omega) fun k hk wB=>?_) T4 (by rw[dZ];exact h.len) h.hlo h.hlo2 ?_ ?_
 ·have iw:¬ TB g l k\/w.heap.size<=k:=wB.imp (h.ap k) id
  rw[uq k (by
   rintro rfl
   rcases iw with h'|h'
   ·exact h' (.inl rfl)
   ·omega)]
  refine zU k hk (fun ad e=>?_)
  rintro rfl
  rcases iw with h'|h'
  ·exact h' (.inr (.inl ⟨_,qP,ad,e,rfl⟩))
  ·have:=(h.t.hlo qP e).2;omega
 ·have gu:=h.kept hf
  have h1:=h.hlo2
  have qg:=h.size
  refine⟨hg.os.trans gu.os,hg.tape.trans gu.tape,hg.output.trans gu.output,by rw[eQ];have:=hg.size;omega,fun k hk iw=>?_⟩
  refine(uq k (by omega)).trans ((zU k (by omega) (fun ad e h'=>?_)).trans (gu.block k hk iw))
  have:=(h.t.hlo qP e).1
  omega
 ·rw[nG,ht,hd,af ⟨rfl,tJ⟩]
  rfl
theorem a6x{w:Wq}{n0 B lo dw:Nat}{aS aH aF aL:Option Addr}{cS cH cF cL:Nat}{M:Mm}{g cT n i:Nat}{l:List (Tk × TkV)}(h:WM w n0 B lo dw aS aH aF aL cS cH cF cL M g cT n l)(hM:Ok M)(hi:i<l.length)(hb:l[i].1.b=true)(hf:Fit M l[i].1.f)(hsl:∀ a∈l[i].1.u,Dp M a=true)(CG:l[i].1.u.length<=100) :
  aI Pg 106 #[Ae B,O J (i:Int)] w fun e w'=>e=.returned (O J 0)/\WP n0 B ⟨(stepT M i l[i].1).1,(l.map (·.1)).set i (stepT M i l[i].1).2⟩ w w':=by
 unfold Ae
 have qP:=bJ hi
 obtain⟨q0,q1,q2,q3,q4,q5,qs⟩:=Bh h.m.box
 have d0:=(h.t.b hi).1
 rw[hb] at d0
 have hn:(i:Int)<(n:Int):=by rw[<- h.len];omega
 have yE:n<=5:=by rw[<- h.len];exact h.t.few
 have HS:Qi (aI Pg 142 #[Ae B,.pointer (some ⟨g,i*16,none⟩),O J (i:Int)] w (Yb (Xw (some ⟨g,0,none⟩) n cT) w B lo (Ac B aS aH aF aL) dw g cT l i (stepT M i l[i].1).1 (stepT M i l[i].1).2.f (Pi l[i].1))) :=
  b2g M B lo aS aH aF aL cS cH cF cL g cT dw i l w h.m hM h.t hi h.ap hsl (fun p hp a ha=>(h.ka p hp a ha).1) hf
 have HFm:=a4m M i l[i].1
 have HHl:Qi ((Pi l[i].1).length<=100):=by
  show _<=_
  unfold Pi
  split
  ·exact Nat.le_trans (List.length_erase_le ..) CG
  ·exact CG
 obtain⟨N,hN⟩:∃ N,N=(stepT M i l[i].1).1:=⟨_,rfl⟩
 obtain⟨F,hF⟩:∃ F,F=(stepT M i l[i].1).2.f:=⟨_,rfl⟩
 obtain⟨t',vZ⟩:∃ t',t'=(stepT M i l[i].1).2:=⟨_,rfl⟩
 obtain⟨H,hH⟩:∃ H,H=Pi l[i].1:=⟨_,rfl⟩
 rw[<- hN,<- hF,<- hH] at HS
 rw[<- vZ,<- hH] at HFm
 rw[<- hH] at HHl
 have MK:t'.f=F:=by rw[vZ,hF]
 rw[MK] at HFm
 rw[<- hN,<- vZ]
 have KQ:Qi (t'=⟨!F.d,F,if F.d=true/\F.c.k=1/\F.e=0 then H ++ [F.h] else H⟩):=HFm
 have HW:Qi (WM w n0 B lo dw aS aH aF aL cS cH cF cL M g cT n l):=h
 have HBsy:Qi (l[i].1.b=true):=hb
 clear h hM hf hsl hN hF vZ hH MK HFm hb
 go_enter func106,ntmps106
 go_wp2_with fail
 refine HS.o.mono ?_
 rintro e w1 ⟨a,c,rfl,ry,wX,MJ,⟨hiq,OT⟩,EY⟩
 clear HS d0 q0 q1 q2 q3 q4 q5
 have vT:=HW.o.t.glo
 have rQ:i<(l.set i (⟨l[i].1.b,l[i].1.f,H⟩,l[i].2)).length:=by rw[dZ];exact hi
 have vU:(l.set i (⟨l[i].1.b,l[i].1.f,H⟩,l[i].2))[i]'rQ=(⟨l[i].1.b,l[i].1.f,H⟩,l[i].2):=mF ..
 have hmh:∀ q∈l.set i (⟨l[i].1.b,l[i].1.f,H⟩,l[i].2),∃ q'∈l,q.2.aH=q'.2.aH:=fun q hq=>by
  rcases Jw hi hq with rfl|h
  ·exact⟨_,qP,rfl⟩
  ·exact⟨q,h,rfl⟩
 have qY:Qi (Cf (w1.setCells g (i*16+1) (F.enc a c)) dw g cT (l.set i (⟨l[i].1.b,F,H⟩,⟨a,c,l[i].2.aH,l[i].2.cH⟩))):=by
  have h2:=OT.a4j rQ F a c ry (fun ad e=>by
   rcases wX ad e with ⟨_,h⟩|h
   ·exact HW.o.t.klo _ qP ad h
   ·omega) (fun _ ad e=>by
   rcases wX ad e with ⟨_,h⟩|h
   ·exact(HW.o.ka _ qP ad h).2.1
   ·omega) (fun _ q hq x b hx hb=>by
   obtain⟨q',AX,e'⟩:=hmh q hq
   rw[e'] at hb
   rcases wX x hx with ⟨_,h⟩|h
   ·exact(HW.o.ka _ qP x h).2.2 q' AX b hb
   ·have:=(HW.o.t.hlo AX hb).2;omega)
  rw[vU,mJ] at h2
  exact h2
 have YN:Qi (w1.there g (i*16+1) 14):=OT.there rQ (by decide)
 have XW:Qi (Has (Xw (some ⟨g,0,none⟩) n cT) (w1.setCells g (i*16+1) (F.enc a c)) B lo (Up w (Ac B aS aH aF aL)) N):=MJ.same (by rw[setCells_size];exact aC _) fun k _ hk=>Af (by
  rintro rfl
  rcases hk with h|h
  ·exact HW.o.ap _ h (.inl rfl)
  ·omega) _ _ _
 have FQ:Qi (Fine w (w1.setCells g (i*16+1) (F.enc a c)) (fun k=>Ac B aS aH aF aL k\/TB g l k)):=Hu EY (.inl (.inr (.inl rfl)))
 clear vU hmh OT ry wX MJ EY
 have x9:i<(l.set i (⟨l[i].1.b,F,H⟩,⟨a,c,l[i].2.aH,l[i].2.cH⟩)).length:=by rw[dZ];exact hi
 have ai:Qi ((l.set i (⟨l[i].1.b,F,H⟩,⟨a,c,l[i].2.aH,l[i].2.cH⟩))[i]'x9=(⟨l[i].1.b,F,H⟩,⟨a,c,l[i].2.aH,l[i].2.cH⟩)):=mF ..
 have d13:(w1.setCells g (i*16+1) (F.enc a c)).cell? ⟨g,i*16+13,none⟩=some (.bool F.d):=by rw[qY.o.cell (q:=13) x9 (by decide),ai.o];rfl
 have HNil:Qi (∀ b:Bool,F.d=b->(l.set i (⟨l[i].1.b,F,H⟩,(⟨a,c,l[i].2.aH,l[i].2.cH⟩:TkV))).map (·.1)=(l.map (·.1)).set i ⟨l[i].1.b,F,H⟩):=fun _ _=>by rw[nG]
 have HBz:Qi (l[i].1.b=true):=HBsy.o
 rcases (nM F.d).symm with vV|vV
 ·have HD:Qi (F.d=false):=vV
  rw[vV] at d13
  clear vV
  have HR:Qi (WP n0 B ⟨N,(l.map (·.1)).set i t'⟩ w (w1.setCells g (i*16+1) (F.enc a c))):=by
   refine Vd XW.o qY.o (by rw[dZ];exact HW.o.len) HW.o.hlo HW.o.hlo2 (HW.o.kept FQ.o) ?_
   rw[HNil.o _ rfl,KQ.o,HBz.o,HD.o]
   rfl
  clear XW qY FQ
  go_wp2_with (refine Bl (f:=F) rfl _ _ rfl rfl rfl YN.o ?_;generalize w1.setCells g (i*16+1) (F.enc a c)=W2 at *)
  go_ret
  exact⟨rfl,HR.o⟩
 ·have HD:Qi (F.d=true):=vV
  rw[vV] at d13
  clear vV
  obtain⟨W2,tu⟩:∃ W2,W2=w1.setCells g (i*16+1) (F.enc a c):=⟨_,rfl⟩
  rw[<- tu] at qY XW FQ d13
  have b2:=qY.o.b x9
  rw[ai.o] at b2
  have uj:Qi (Cf (W2.setCell ⟨g,i*16,none⟩ (.bool false)) dw g cT (l.set i (⟨false,F,H⟩,⟨a,c,l[i].2.aH,l[i].2.cH⟩))):=by
   have h:=qY.o.setB x9 false
   rw[ai.o,mJ] at h
   exact h
  have XU:Qi (Has (Xw (some ⟨g,0,none⟩) n cT) (W2.setCell ⟨g,i*16,none⟩ (.bool false)) B lo (Up w (Ac B aS aH aF aL)) N):=XW.o.same (by rw[eQ];exact aC _) fun k _ hk=>dM _ _ _ _ (by
   dsimp only
   rintro rfl
   rcases hk with h|h
   ·exact HW.o.ap _ h (.inl rfl)
   ·omega)
  have zF:Qi (Fine w (W2.setCell ⟨g,i*16,none⟩ (.bool false)) (fun k=>Ac B aS aH aF aL k\/TB g l k)):=FQ.o.set (.inl (.inr (.inl rfl))) _ _
  clear qY XW FQ
  have CO:i<(l.set i (⟨false,F,H⟩,(⟨a,c,l[i].2.aH,l[i].2.cH⟩:TkV))).length:=by rw[dZ];exact hi
  have di:Qi ((l.set i (⟨false,F,H⟩,(⟨a,c,l[i].2.aH,l[i].2.cH⟩:TkV)))[i]'CO=(⟨false,F,H⟩,⟨a,c,l[i].2.aH,l[i].2.cH⟩)):=mF ..
  have k1:(W2.setCell ⟨g,i*16,none⟩ (.bool false)).cell? ⟨g,i*16+1,none⟩=some (O J F.c.k):=by rw[uj.o.cell (q:=1) CO (by decide),di.o];rfl
  have k14:(W2.setCell ⟨g,i*16,none⟩ (.bool false)).cell? ⟨g,i*16+14,none⟩=some (O J F.e):=by rw[uj.o.cell (q:=14) CO (by decide),di.o];rfl
  have LM:(W2.setCell ⟨g,i*16,none⟩ (.bool false)).cell? ⟨g,i*16+10,none⟩=some (O J F.h):=by rw[uj.o.cell (q:=10) CO (by decide),di.o];rfl
  have k15:(W2.setCell ⟨g,i*16,none⟩ (.bool false)).cell? ⟨g,i*16+15,none⟩=some (Y l[i].2.aH H.length l[i].2.cH):=by rw[uj.o.cell (q:=15) CO (by decide),di.o];rfl
  have BM:(W2.setCell ⟨g,i*16,none⟩ (.bool false)).frozen? ⟨g,i*16+15,none⟩=false:=uj.o.row.frozenAt _
  obtain⟨b2a,b2b⟩:=b2
  by_cases tJ:F.c.k=1/\F.e=0
  rotate_left
  ·have HR:Qi (WP n0 B ⟨N,(l.map (·.1)).set i t'⟩ w (W2.setCell ⟨g,i*16,none⟩ (.bool false))):=by
    refine Vd XU.o uj.o (by rw[dZ];exact HW.o.len) HW.o.hlo HW.o.hlo2 (HW.o.kept zF.o) ?_
    rw[nG,KQ.o,HD.o,ae (fun h=>tJ h.2)]
    rfl
   subst tu
   clear XU uj zF di ai
   by_cases ry:F.c.k=1
   ·have he':(F.e==0)=false:=by simpa using fun h=>tJ ⟨ry,h⟩
    have rO:(F.c.k==1)=true:=by simpa using ry
    clear ry tJ
    dsimp only
    iterate 7 (first|go_values|go_skip|go_guarded|go_step|go_upon)
    refine Bl (f:=F) rfl _ _ rfl rfl rfl YN.o ?_
    generalize w1.setCells g (i*16+1) (F.enc a c)=W2 at *
    go_wp2
    go_ret
    exact⟨rfl,HR.o⟩
   ·have rO:(F.c.k==1)=false:=by simpa using ry
    clear ry tJ
    dsimp only
    iterate 7 (first|go_values|go_skip|go_guarded|go_step|go_upon)
    refine Bl (f:=F) rfl _ _ rfl rfl rfl YN.o ?_
    generalize w1.setCells g (i*16+1) (F.enc a c)=W2 at *
    go_wp2
    go_ret
    exact⟨rfl,HR.o⟩
  ·obtain⟨i0,uS,ng,qj,pq⟩:=info_parts iI
   have he':(F.e==0)=true:=by simpa using tJ.2
   have rO:(F.c.k==1)=true:=by simpa using tJ.1
   have HLk:Qi (F.c.k=1/\F.e=0):=tJ
   have hln:=HHl.o
   have jv:(W2.setCell ⟨g,i*16,none⟩ (.bool false)).ownsRow dw 3 1 (Y l[i].2.aH H.length l[i].2.cH) H.length (encI H):=by
    have h:=uj.o.u _ (bJ CO)
    rw[di.o] at h
    exact h
   obtain⟨W3,zX⟩:∃ W3,W3=W2.setCell ⟨g,i*16,none⟩ (.bool false):=⟨_,rfl⟩
   rw[<- zX] at uj XU zF k1 k14 LM k15 BM jv
   have RX:Qi (((W3.alloc (.cells #[O J F.h] 3)).drew).ownsRow dw 3 1 (Y l[i].2.aH H.length l[i].2.cH) H.length (encI H)):=(jv.alloc _).drew
   have SI:Qi (∀ q y,[Value.int .i64 F.h][q]?=some y->((W3.alloc (.cells #[O J F.h] 3)).drew).cell? ((⟨W3.heap.size,0,none⟩:Addr).add q)=some y):=fun q y h=>cell_one_new W3 _ _ q y h
   have hgz3:dw<=W3.heap.size:=Nat.le_trans uj.o.glo.1 (mX uj.o.glo.2)
   subst tu
   clear ai tJ
   dsimp only
   iterate 7 (first|go_values|go_skip|go_guarded|go_step|go_upon)
   refine Bl (f:=F) rfl _ _ rfl rfl rfl YN.o ?_
   generalize w1.setCells g (i*16+1) (F.enc a c)=W2 at *
   subst zX
   go_wp2_with fail
   generalize W2.setCell ⟨g,i*16,none⟩ (.bool false)=W3 at *
   clear d13 b2a b2b k1 k14
   have ve:Qi (∀ w2:Wq,(W3.alloc (.cells #[O J F.h] 3)).grownBy w2 (eX l[i].2.aH H.length l[i].2.cH).ownBlock->∀ k,k<W3.heap.size->(∀ ad,l[i].2.aH=some ad->k≠ad.block)->w2.heap[k]?=W3.heap[k]?):=fun w2 hg k hk iw=>by
    refine(hg.block k (by simp;omega) (fun e=>?_)).trans (fU _ _ _ hk)
    cases ha:l[i].2.aH with
    | none=>rw[ha] at e;cases e
    | some ad=>rw[ha] at e;injection e with e;exact iw ad ha e
   have YB:Qi (∀ w2:Wq,(W3.alloc (.cells #[O J F.h] 3)).grownBy w2 (eX l[i].2.aH H.length l[i].2.cH).ownBlock->w2.cell? ⟨g,i*16+15,none⟩=some (Y l[i].2.aH H.length l[i].2.cH)/\w2.frozen? ⟨g,i*16+15,none⟩=false):=fun w2 hg=>by
    have h:=ve.o w2 hg g uj.o.glo.2 (fun ad e h=>HW.o.t.hg qP e h.symm)
    exact⟨(World.cell?_of_block (a:=⟨g,i*16+15,none⟩) h).trans k15,(World.frozen?_of_block (a:=⟨g,i*16+15,none⟩) h).trans BM⟩
   have hg3:g<W3.heap.size:=uj.o.glo.2
   go_region_law (refine Dq _ rfl (.tmp 54) (.tmp 60) 23 rfl dw 3 i0 (O J 0) 1 8 underlying23 uS ng qj pq rfl (by decide) (Y l[i].2.aH H.length l[i].2.cH) _ _ rfl RX.o ⟨W3.heap.size,0,none⟩ 1 1 [O J F.h] rfl rfl SI.o (by intro x hx;simp at hx;subst hx;rfl) (by unfold maxLen;omega) (by omega) (by simp[World.drew];omega) ?_;intro v2 w2 jk lg _ ji;obtain⟨g2,eu,rfl⟩:=ownsRow_form jk (by omega);have KJ:Qi (w2.ownsRow dw 3 1 (Y (some ⟨g2,0,none⟩) (H.length+1) eu) (H.length+1) (encI H ++ [O J F.h])):=jk;have PW:Qi ((W3.alloc (.cells #[O J F.h] 3)).grownBy w2 (eX l[i].2.aH H.length l[i].2.cH).ownBlock):=⟨lg.1,lg.2,lg.3,lg.4,lg.5⟩;have HL5:Qi ((some g2:Option Nat)=(eX l[i].2.aH H.length l[i].2.cH).ownBlock\/some g2=some (W3.alloc (.cells #[O J F.h] 3)).heap.size):=ji;have e15:=(YB.o w2 PW.o).1;have GN:=(YB.o w2 PW.o).2;clear jk lg ji)
   all_goals
    have HR:Qi (WP n0 B ⟨N,(l.map (·.1)).set i t'⟩ w (w2.setCell ⟨g,i*16+15,none⟩ (Y (some ⟨g2,0,none⟩) (H.length+1) eu))):=a9w HW.o hi uj.o XU.o zF.o KQ.o HD.o HLk.o KJ.o PW.o HL5.o hln
    clear RX SI ve YB uj XU zF di KQ HW
    go_wp2
    go_ret
    exact⟨rfl,HR.o⟩
end
section
open Maps
def Ya(n0 B:Nat)(E:Int)(W':Wd)(w:Wq)(e:lZ)(w':Wq):Prop :=
 e=.returned (O J E)/\((E≠0/\Below n0 w w')\/(E=0/\WP n0 B W' w w'))
theorem Ql{w:Wq}{B:Nat}{v0 v1 v2 v3 v4 v5 v6 v7 v8:dU}{t:TypeId}(h:w.heap[B]?=some (.cells #[v0,v1,v2,v3,v4,v5,v6,v7,v8] t (0,0))) :
  w.cell? ⟨B,0,none⟩=some v0/\w.cell? ⟨B,1,none⟩=some v1/\w.cell? ⟨B,2,none⟩=some v2/\w.cell? ⟨B,3,none⟩=some v3/\w.cell? ⟨B,4,none⟩=some v4/\w.cell? ⟨B,5,none⟩=some v5 /\
  w.cell? ⟨B,6,none⟩=some v6/\w.cell? ⟨B,7,none⟩=some v7/\w.cell? ⟨B,8,none⟩=some v8/\B<w.heap.size :=
 ⟨by rw[dN h];rfl,by rw[dN h];rfl,by rw[dN h];rfl,by rw[dN h];rfl,by rw[dN h];rfl,by rw[dN h];rfl,by rw[dN h];rfl,by rw[dN h];rfl,by rw[dN h];rfl,fC h⟩
theorem WM.below{w w':Wq}{n0 B lo dw:Nat}{aS aH aF aL:Option Addr}{cS cH cF cL:Nat}{M:Mm}{g cT n:Nat}{l:List (Tk × TkV)}(h:WM w n0 B lo dw aS aH aF aL cS cH cF cL M g cT n l)(hb:Below w.heap.size w w'):WM w' n0 B lo dw aS aH aF aL cS cH cF cL M g cT n l :=
 ⟨h.m.below hb,h.t.below hb,h.len,h.ap,fun p hp a ha=>⟨mY (h.ka p hp a ha).1 hb.size,(h.ka p hp a ha).2⟩,h.hlo,h.hlo2⟩
theorem WP.pre{n0 B:Nat}{W':Wd}{w0 w w':Wq}(h:WP n0 B W' w w')(hb:Below n0 w0 w):WP n0 B W' w0 w':=by
 obtain⟨aS,aH,aF,aL,cS,cH,cF,cL,aT,cT,l,h1,h2,h3,h4,h5,h6,h7⟩:=h
 exact⟨aS,aH,aF,aL,cS,cH,cF,cL,aT,cT,l,h1,h2,h3,h4,h5,h6,(Kept.of_below hb (aC _)).trans h7⟩
section
variable {w:Wq} {n0 B lo dw:Nat} {aS aH aF aL:Option Addr} {cS cH cF cL:Nat} {M:Mm} {g cT n:Nat} {l:List (Tk × TkV)}
theorem a8c(h:WM w n0 B lo dw aS aH aF aL cS cH cF cL M g cT n l)(hM:Ok M)(x:Pk)(ht:x.tick=true) :
  aI Pg 58 #[Ae B,Qn x] w (Ya n0 B (if M.w=1000000 then 7 else 0) ⟨{ M with w:=M.w+1 },l.map (·.1)⟩ w):=by
 unfold Ae Qn
 obtain⟨ox,jq⟩:∃ o:Obj,o=.cells #[O J x.s,.bool x.step,.bool x.tick,O J x.c.k,O J x.c.a,O J x.c.b,O J x.c.t,O J x.c.q,O J x.c.h] 34:=⟨_,rfl⟩
 have b0:Below w.heap.size w (w.alloc ox):=A7 w ox
 have ni:Qi ((w.alloc ox).heap[w.heap.size]?=some ox):=fP w ox
 have uG:Qi (WM (w.alloc ox) n0 B lo dw aS aH aF aL cS cH cF cL M g cT n l):=h.below b0
 have qg:=h.size
 have hB:=fC h.m.box
 clear h
 obtain⟨tk,st,ti,cc⟩:=x
 dsimp only at ht
 subst ht
 by_cases hn:M.w=1000000
 ·rw[af hn]
  go_enter func58,ntmps58
  go_wp2_with fail
  rw[<- jq]
  generalize w.alloc ox=W0 at *
  refine(a8p uG.o.m hn).mono ?_
  rintro e w1 ⟨rfl,rfl⟩
  clear jq ni uG
  go_wp2
  go_ret
  exact⟨rfl,.inl ⟨by decide,b0.mono qg⟩⟩
 ·rw[ae hn]
  go_enter func58,ntmps58
  go_wp2_with fail
  rw[<- jq]
  generalize w.alloc ox=W0 at *
  refine(b4v uG.o.m hn hM.w).mono ?_
  rintro e w1 ⟨rfl,rfl⟩
  have HR:Qi (WP n0 B ⟨{ M with w:=M.w+1 },l.map (·.1)⟩ w (W0.setCell ⟨B,4,none⟩ (O J (M.w+1)))):=by
   have hw:=uG.o
   refine Vd (Z:=fun _=>True) ⟨aS,aH,aF,aL,cS,cH,cF,cL,hw.m.b2c (M.w+1),fun _ _=>trivial⟩ (hw.t.same fun k _ hk=>dM _ _ _ _ (by dsimp only;exact fun e=>hw.ap B (.inl rfl) (e ▸ hk))) hw.len hw.hlo hw.hlo2 ((Kept.of_below (b0.mono qg) (aC _)).a0c _) rfl
  clear jq ni uG
  generalize W0.setCell ⟨B,4,none⟩ (O J (M.w+1))=W1 at *
  go_wp2
  go_ret
  exact⟨rfl,.inr ⟨rfl,HR.o⟩⟩
theorem a8a(h:WM w n0 B lo dw aS aH aF aL cS cH cF cL M g cT n l)(x:Pk)(ht:x.tick=false)(hx:¬ (0<=x.s/\x.s<n))(W':Wd) :
  aI Pg 58 #[Ae B,Qn x] w (Ya n0 B 5 W' w):=by
 unfold Ae Qn
 obtain⟨ox,jq⟩:∃ o:Obj,o=.cells #[O J x.s,.bool x.step,.bool x.tick,O J x.c.k,O J x.c.a,O J x.c.b,O J x.c.t,O J x.c.q,O J x.c.h] 34:=⟨_,rfl⟩
 have b0:Below w.heap.size w (w.alloc ox):=A7 w ox
 have qg:=h.size
 obtain⟨q0,q1,q2,q3,q4,q5,qs⟩:=Bh h.m.box
 have yE:n<=5:=by rw[<- h.len];exact h.t.few
 have rE:1<=n\/n=0:=by omega
 clear h
 obtain⟨tk,st,ti,cc⟩:=x
 dsimp only at ht hx
 subst ht
 have xX:Qi (∀ W:Wq,aI Pg 85 #[O J tk,O J 0,O J ((n:Int) - 1)] W fun e w'=>e=.returned (.bool false)/\w'=W):=fun W=>by
  refine(Ci tk 0 ((n:Int) - 1) W).mono ?_
  rintro e w' ⟨rfl,rfl⟩
  have:inB tk 0 ((n:Int) - 1)=false:=by
   cases hb:inB tk 0 ((n:Int) - 1)
   ·rfl
   ·rw[Ar] at hb;omega
  exact⟨by rw[this],rfl⟩
 have YV:IntKind.i64.wrap ((n:Int) - 1)=(n:Int) - 1:=by rw[nI];omega
 clear hx
 go_enter func58,ntmps58
 go_wp2_with fail
 go_quiet (first|(go_at_call 85;exact nJ (xX.o _)))
 go_wp2
 go_ret
 exact⟨rfl,.inl ⟨by decide,lW (by rw[<- jq];exact b0.mono qg) nq⟩⟩
theorem a8b(h:WM w n0 B lo dw aS aH aF aL cS cH cF cL M g cT n l)(hM:Ok M)(i:Nat)(hi:i<l.length)(c:Cl)(hsl:∀ a∈l[i].1.u,Dp M a=true)(CG:l[i].1.u.length<=100)(hf:l[i].1.b=true->Fit M l[i].1.f) :
  aI Pg 58 #[Ae B,.agg #[O J (i:Int),.bool true,.bool false,O J c.k,O J c.a,O J c.b,O J c.t,O J c.q,O J c.h]] w (Ya n0 B (if l[i].1.b then 0 else 8) ⟨(stepT M i l[i].1).1,(l.map (·.1)).set i (stepT M i l[i].1).2⟩ w):=by
 unfold Ae
 obtain⟨ox,jq⟩:∃ o:Obj,o=.cells #[O J (i:Int),.bool true,.bool false,O J c.k,O J c.a,O J c.b,O J c.t,O J c.q,O J c.h] 34:=⟨_,rfl⟩
 have b0:Below w.heap.size w (w.alloc ox):=A7 w ox
 have qg:=h.size
 obtain⟨q0,q1,q2,q3,q4,q5,qs⟩:=Bh h.m.box
 have yE:n<=5:=by rw[<- h.len];exact h.t.few
 have vw:i<n:=by rw[<- h.len];exact hi
 have uG:Qi (∀ k,WM ((w.alloc ox).drewN k) n0 B lo dw aS aH aF aL cS cH cF cL M g cT n l):=fun k=>h.below (lW b0 k)
 have ni:Qi (∀ k,((w.alloc ox).drewN k).cell? ⟨w.heap.size,0,none⟩=some (O J (i:Int))/\((w.alloc ox).drewN k).cell? ⟨w.heap.size,1,none⟩=some (.bool true)):=fun k=>by
  have:=fP w ox
  rw[jq] at this ⊢
  exact⟨(dN this _).trans rfl,(dN this _).trans rfl⟩
 clear h
 have xX:Qi (∀ W:Wq,aI Pg 85 #[O J (i:Int),O J 0,O J ((n:Int) - 1)] W fun e w'=>e=.returned (.bool true)/\w'=W):=fun W=>by
  refine(Ci (i:Int) 0 ((n:Int) - 1) W).mono ?_
  rintro e w' ⟨rfl,rfl⟩
  have:inB (i:Int) 0 ((n:Int) - 1)=true:=by rw[Ar];omega
  exact⟨by rw[this],rfl⟩
 have YV:IntKind.i64.wrap ((n:Int) - 1)=(n:Int) - 1:=by rw[nI];omega
 rcases (nM l[i].1.b).symm with hb|hb
 ·rw[hb,ae (by simp)]
  have HG:Qi (∀ W:Wq,WM W n0 B lo dw aS aH aF aL cS cH cF cL M g cT n l->aI Pg 106 #[Ae B,O J (i:Int)] W fun e w'=>e=.returned (O J 8)/\w'=W):=fun W hW=>a6y hW hi hb
  clear hb hf hsl
  go_enter func58,ntmps58
  go_wp2_with fail
  go_quiet (first|(go_at_call 85;exact nJ (xX.o _)))
  rw[<- jq]
  have KC:=uG.o nq
  obtain⟨x0,x1⟩:=ni.o nq
  have b1:Below n0 w ((w.alloc ox).drewN nq):=lW (b0.mono qg) nq
  clear uG ni q0 q1 q2 q3 q4 q5
  generalize (w.alloc ox).drewN nq=W1 at *
  have uY:Qi (WM W1 n0 B lo dw aS aH aF aL cS cH cF cL M g cT n l):=KC
  clear KC jq
  go_wp2_with fail
  refine(HG.o W1 uY.o).mono ?_
  rintro e w2 ⟨rfl,rfl⟩
  clear x0 x1
  go_wp2
  go_ret
  exact⟨rfl,.inl ⟨by decide,b1⟩⟩
 ·have HG:Qi (∀ W:Wq,WM W n0 B lo dw aS aH aF aL cS cH cF cL M g cT n l->aI Pg 106 #[Ae B,O J (i:Int)] W fun e w'=>e=.returned (O J 0)/\WP n0 B ⟨(stepT M i l[i].1).1,(l.map (·.1)).set i (stepT M i l[i].1).2⟩ W w'):=fun W hW=>a6x hW hM hi hb (hf hb) hsl CG
  obtain⟨W',wo⟩:∃ W':Wd,W'=⟨(stepT M i l[i].1).1,(l.map (·.1)).set i (stepT M i l[i].1).2⟩:=⟨_,rfl⟩
  rw[hb,af rfl,<- wo]
  rw[<- wo] at HG
  clear hb hf hsl wo
  go_enter func58,ntmps58
  go_wp2_with fail
  go_quiet (first|(go_at_call 85;exact nJ (xX.o _)))
  rw[<- jq]
  have KC:=uG.o nq
  obtain⟨x0,x1⟩:=ni.o nq
  have b1:Below n0 w ((w.alloc ox).drewN nq):=lW (b0.mono qg) nq
  clear uG ni q0 q1 q2 q3 q4 q5
  generalize (w.alloc ox).drewN nq=W1 at *
  have uY:Qi (WM W1 n0 B lo dw aS aH aF aL cS cH cF cL M g cT n l):=KC
  clear KC jq
  go_wp2_with fail
  refine(HG.o W1 uY.o).mono ?_
  rintro e w2 ⟨rfl,wR⟩
  have HR:Qi (WP n0 B W' w w2):=wR.pre b1
  clear x0 x1 wR
  go_wp2
  go_ret
  exact⟨rfl,.inr ⟨rfl,HR.o⟩⟩
theorem a3u(h:WM w n0 B lo dw aS aH aF aL cS cH cF cL M g cT n l)(hM:Ok M)(i:Nat)(hi:i<l.length)(c:Cl) :
  aI Pg 58 #[Ae B,.agg #[O J (i:Int),.bool false,.bool false,O J c.k,O J c.a,O J c.b,O J c.t,O J c.q,O J c.h]] w (Ya n0 B (a0l M l[i].1 c) ⟨M,(l.map (·.1)).set i ⟨true,Df c,l[i].1.u⟩⟩ w):=by
 unfold Ae
 obtain⟨ox,jq⟩:∃ o:Obj,o=.cells #[O J (i:Int),.bool false,.bool false,O J c.k,O J c.a,O J c.b,O J c.t,O J c.q,O J c.h] 34:=⟨_,rfl⟩
 have b0:Below w.heap.size w (w.alloc ox):=A7 w ox
 have qg:=h.size
 have ig:=hM.ns
 have vT:=h.t.glo.2
 have jf:=hM.nh
 obtain⟨q0,q1,q2,q3,q4,q5,qs⟩:=Bh h.m.box
 have yE:n<=5:=by rw[<- h.len];exact h.t.few
 have vw:i<n:=by rw[<- h.len];exact hi
 have uG:Qi (∀ k,WM ((w.alloc ox).drewN k) n0 B lo dw aS aH aF aL cS cH cF cL M g cT n l):=fun k=>h.below (lW b0 k)
 have ni:Qi (∀ k,((w.alloc ox).drewN k).heap[w.heap.size]?=some ox):=fun k=>fP w ox
 obtain⟨E,hE⟩:∃ E,E=a0l M l[i].1 c:=⟨_,rfl⟩
 obtain⟨W',wo⟩:∃ W':Wd,W'=⟨M,(l.map (·.1)).set i ⟨true,Df c,l[i].1.u⟩⟩:=⟨_,rfl⟩
 rw[<- hE,<- wo]
 have YB:Qi (∀ W:Wq,WM W n0 B lo dw aS aH aF aL cS cH cF cL M g cT n l->Below n0 w W->aI Pg 107 #[Cm aS aH aF aL cS cH cF cL M,.pointer (some ⟨g,i*16,none⟩),Gj c] W fun e w'=>e=.returned (O J E)/\((E≠0/\Below n0 w w')\/(E=0/\WP n0 B W' w w'))/\Fine W w' (fun k=>k=g)):=fun W hW hbW=>by
  have NP:=hW
  refine(a6h M c aS aH aF aL cS cH cF cL g cT dw i l W hW.t hi (by omega) (by omega)).mono ?_
  rintro e w' ⟨rfl,hh⟩
  rw[<- hE] at hh ⊢
  refine⟨rfl,hh.imp (fun ⟨h1,h2⟩=>⟨h1,hbW.trans (h2.mono hW.size)⟩) (fun ⟨h1,⟨uN,hT⟩,hF⟩=>⟨h1,?_⟩),hh.elim (fun ⟨_,h2⟩=>.of_below _ h2) (fun ⟨_,_,hF⟩=>hF)⟩
  rw[wo]
  refine Vd (Z:=Ac B aS aH aF aL) ⟨aS,aH,aF,aL,cS,cH,cF,cL,hW.m.same hF.size (fun k hk hfo=>hF.block k hk (fun e=>hW.ap k hfo (by rw[e];exact .inl rfl))),fun _ h=>h⟩ hT (by rw[dZ];exact hW.len) hW.hlo hW.hlo2 ((Kept.of_below hbW (aC _)).trans ⟨hF.os,hF.tape,hF.output,hF.size,fun k hk iw=>hF.block k (by have:=hW.size;omega) (fun e=>by have:=hW.t.glo.1;have:=hW.hlo2;omega)⟩) ?_
  rw[nG]
 clear h hM hE wo
 have xX:Qi (∀ W:Wq,aI Pg 85 #[O J (i:Int),O J 0,O J ((n:Int) - 1)] W fun e w'=>e=.returned (.bool true)/\w'=W):=fun W=>by
  refine(Ci (i:Int) 0 ((n:Int) - 1) W).mono ?_
  rintro e w' ⟨rfl,rfl⟩
  have:inB (i:Int) 0 ((n:Int) - 1)=true:=by rw[Ar];omega
  exact⟨by rw[this],rfl⟩
 have YV:IntKind.i64.wrap ((n:Int) - 1)=(n:Int) - 1:=by rw[nI];omega
 go_enter func58,ntmps58
 go_wp2_with fail
 go_quiet (first|(go_at_call 85;exact nJ (xX.o _)))
 rw[<- jq]
 have KC:=uG.o nq
 have ug:=ni.o nq
 have b1:Below n0 w ((w.alloc ox).drewN nq):=lW (b0.mono qg) nq
 clear uG ni q0 q1 q2 q3 q4 q5 xX
 generalize (w.alloc ox).drewN nq=W1 at *
 have uY:Qi (WM W1 n0 B lo dw aS aH aF aL cS cH cF cL M g cT n l):=KC
 subst jq
 obtain⟨x0,x1,x2,x3,x4,x5,x6,x7,x8,xs⟩:=Ql ug
 obtain⟨q0,q1,q2,q3,q4,q5,LG⟩:=Bh KC.m.box
 have CP:(i:Int)<(n:Int):=by omega
 have qZ:Qi (Below n0 w W1):=b1
 clear KC ug b1
 have QN:B≠g:=fun e=>uY.o.ap B (.inl rfl) (.inl e)
 have OD:w.heap.size≠g:=by have:=vT;omega
 have HS:Qi (∀ w':Wq,Fine W1 w' (fun k=>k=g)->w'.cell? ⟨B,0,none⟩=some (Y aS M.s.length cS)/\w'.cell? ⟨B,1,none⟩=some (Y aH M.h.length cH)/\w'.cell? ⟨B,2,none⟩=some (Y aF M.f.length cF)/\w'.cell? ⟨B,3,none⟩=some (Y aL M.l.length cL)/\w'.cell? ⟨B,4,none⟩=some (O J M.w)/\w'.cell? ⟨B,5,none⟩=some (Y (some ⟨g,0,none⟩) n cT)/\w'.cell? ⟨w.heap.size,0,none⟩=some (O J (i:Int))/\w'.cell? ⟨w.heap.size,3,none⟩=some (O J c.k)/\w'.cell? ⟨w.heap.size,4,none⟩=some (O J c.a)/\w'.cell? ⟨w.heap.size,5,none⟩=some (O J c.b)/\w'.cell? ⟨w.heap.size,6,none⟩=some (O J c.t)/\w'.cell? ⟨w.heap.size,7,none⟩=some (O J c.q)/\w'.cell? ⟨w.heap.size,8,none⟩=some (O J c.h)):=fun w' hb=>⟨(World.cell?_of_block (hb.block B LG QN)).trans q0,(World.cell?_of_block (hb.block B LG QN)).trans q1,(World.cell?_of_block (hb.block B LG QN)).trans q2,(World.cell?_of_block (hb.block B LG QN)).trans q3,(World.cell?_of_block (hb.block B LG QN)).trans q4,(World.cell?_of_block (hb.block B LG QN)).trans q5,(World.cell?_of_block (hb.block w.heap.size xs OD)).trans x0,(World.cell?_of_block (hb.block w.heap.size xs OD)).trans x3,(World.cell?_of_block (hb.block w.heap.size xs OD)).trans x4,(World.cell?_of_block (hb.block w.heap.size xs OD)).trans x5,(World.cell?_of_block (hb.block w.heap.size xs OD)).trans x6,(World.cell?_of_block (hb.block w.heap.size xs OD)).trans x7,(World.cell?_of_block (hb.block w.heap.size xs OD)).trans x8⟩
 go_wp2_with fail
 go_region_held3 (fun w'=>w'.cell? ⟨B,0,none⟩=some (Y aS M.s.length cS)/\w'.cell? ⟨B,1,none⟩=some (Y aH M.h.length cH)/\w'.cell? ⟨B,2,none⟩=some (Y aF M.f.length cF)/\w'.cell? ⟨B,3,none⟩=some (Y aL M.l.length cL)/\w'.cell? ⟨B,4,none⟩=some (O J M.w)/\w'.cell? ⟨B,5,none⟩=some (Y (some ⟨g,0,none⟩) n cT)/\w'.cell? ⟨w.heap.size,0,none⟩=some (O J (i:Int))/\w'.cell? ⟨w.heap.size,3,none⟩=some (O J c.k)/\w'.cell? ⟨w.heap.size,4,none⟩=some (O J c.a)/\w'.cell? ⟨w.heap.size,5,none⟩=some (O J c.b)/\w'.cell? ⟨w.heap.size,6,none⟩=some (O J c.t)/\w'.cell? ⟨w.heap.size,7,none⟩=some (O J c.q)/\w'.cell? ⟨w.heap.size,8,none⟩=some (O J c.h)) (first|exact HS.o _ FQ.o|exact HS.o _ ⟨rfl,rfl,rfl,aC _,fun _ _ _=>rfl⟩) (first|(go_at_call 107;refine(YB.o _ (by exact uY.o.below ⟨rfl,rfl,rfl,aC _,fun _ _=>rfl⟩) (by exact qZ.o.trans ⟨rfl,rfl,rfl,aC _,fun _ _=>rfl⟩)).mono ?_;rintro e w2 ⟨rfl,hh,ik⟩;have FQ:Qi (Fine W1 w2 (fun k=>k=g)):=⟨ik.os,ik.tape,ik.output,ik.size,ik.block⟩;have HR:Qi ((E≠0/\Below n0 w w2)\/(E=0/\WP n0 B W' w w2)):=hh;clear hh ik))
 all_goals
  go_wp2
  go_ret
  exact⟨rfl,HR.o⟩
end
end
section
open Maps
def w0W:Wd:=⟨m0,[]⟩
def DoE(W:Wd)(x:Pk):Int:=if wE W≠0 then wE W else doE W x
def DoP(w:Wq)(W:Wd)(x:Pk)(e:lZ)(w':Wq):Prop :=
 ∃ v,e=.returned (.tuple #[v,O J (DoE W x)])/\Di w.heap.size w' v (if DoE W x=0 then doW W x else w0W)/\Below w.heap.size w w'
theorem a2o(lo:Nat)(w:Wq):Di lo w (.agg #[Y none 0 0,Y none 0 0,Y none 0 0,Y none 0 0,O J 0,Y none 0 0]) w0W :=
 ⟨none,none,none,none,0,0,0,0,none,0,[],rfl,⟨⟨by decide,by decide,fun _=>rfl,.inl rfl⟩,⟨by decide,by decide,fun _=>rfl,.inl rfl⟩,⟨by decide,by decide,fun _=>rfl,.inl rfl⟩,⟨by decide,by decide,fun _=>rfl,.inl rfl⟩⟩,⟨(fun _ h=>by cases h),(fun _ h=>by cases h),(fun _ h=>by cases h),(fun _ h=>by cases h)⟩,rfl,a2j w,⟨(fun _ h=>by cases h),(fun _ h=>by cases h),(fun _ h=>by cases h)⟩⟩
theorem b2m(l:List (Tk × TkV))(x:Pk)(h:x.s.toNat<l.length)(M:Mm):Gt ⟨M,l.map (·.1)⟩ x=l[x.s.toNat].1:=by
 unfold Gt
 simp[List.getD_eq_getElem?_getD,h]
theorem b0x{w:Wq}{n0 B lo dw:Nat}{aS aH aF aL:Option Addr}{cS cH cF cL:Nat}{M:Mm}{g cT n:Nat}{l:List (Tk × TkV)}(h:WM w n0 B lo dw aS aH aF aL cS cH cF cL M g cT n l)(hw:wE ⟨M,l.map (·.1)⟩=0)(x:Pk) :
  aI Pg 58 #[Ae B,Qn x] w (Ya n0 B (doE ⟨M,l.map (·.1)⟩ x) (doW ⟨M,l.map (·.1)⟩ x) w):=by
 unfold Ae Qn
 obtain⟨hchk,-,-,QF⟩:=Ko.1 hw
 have hM:Ok M:=(Ky M).1 hchk
 have htk':∀ p∈l,p.1.u.length<=100/\(∀ a∈p.1.u,Dp M a=true)/\(p.1.b=true->Fit M p.1.f):=fun p hp=>by
  have h1:=Po.1 (QF p.1 (List.mem_map.2 ⟨p,hp,rfl⟩))
  exact⟨h1.1,h1.2.1,fun hb=>a5k.1 (h1.2.2 hb)⟩
 by_cases ht:x.tick=true
 ·have h1:=a8c h hM x ht
  have e1:doE ⟨M,l.map (·.1)⟩ x=if M.w=1000000 then 7 else 0:=by unfold doE;rw[af ht]
  have e2:doW ⟨M,l.map (·.1)⟩ x=⟨{ M with w:=M.w+1 },l.map (·.1)⟩:=by unfold doW;rw[af ht]
  rw[e1,e2];exact h1
 have vZ:x.tick=false:=by simpa using ht
 by_cases hx:0<=x.s/\x.s<n
 rotate_left
 ·have e1:doE ⟨M,l.map (·.1)⟩ x=5:=by
   unfold doE
   have hn:¬ (0<=x.s/\x.s<(Wd.mk M (l.map (·.1))).t.length):=by
    show ¬ (0<=x.s/\x.s<((l.map (·.1)).length:Nat))
    rw[kN,h.len];exact hx
   rw[ae ht,af hn]
  rw[e1]
  exact a8a h x vZ hx _
 obtain⟨i,hi⟩:∃ i:Nat,x.s=i:=⟨x.s.toNat,(nK hx.1).symm⟩
 have rQ:i<l.length:=by rw[h.len];omega
 have vw:0<=x.s/\x.s<((Wd.mk M (l.map (·.1))).t.length:Nat):=by
  show 0<=x.s/\x.s<((l.map (·.1)).length:Nat)
  rw[kN,h.len];exact hx
 have IR:Gt ⟨M,l.map (·.1)⟩ x=l[i].1:=by
  have:=b2m l x (by rw[hi];exact rQ) M
  simpa [hi] using this
 have TT:x.s.toNat=i:=by rw[hi];rfl
 obtain⟨h5,hsl,hf⟩:=htk' _ (bJ rQ)
 by_cases hs:x.step=true
 ·have e1:doE ⟨M,l.map (·.1)⟩ x=if l[i].1.b then 0 else 8:=by unfold doE;rw[ae ht,ae (fun hh=>hh vw),af hs,IR]
  have e2:doW ⟨M,l.map (·.1)⟩ x=⟨(stepT M i l[i].1).1,(l.map (·.1)).set i (stepT M i l[i].1).2⟩:=by unfold doW;rw[ae ht,af hs,IR,TT]
  rw[e1,e2,vZ,hs,hi]
  exact a8b h hM i rQ x.c hsl h5 hf
 ·have zQ:x.step=false:=by simpa using hs
  have e1:doE ⟨M,l.map (·.1)⟩ x=a0l M l[i].1 x.c:=by
   unfold doE
   rw[ae ht,ae (fun hh=>hh vw),ae hs]
   unfold Zl a0l
   rw[IR]
   have q1:((x.c.k=1/\l[i].1.u.length=100) ↔ (x.c.k=1/\100<=l[i].1.u.length)):=⟨fun ⟨a,b⟩=>⟨a,by omega⟩,fun ⟨a,b⟩=>⟨a,by omega⟩⟩
   have q2:((x.c.k=6/\x.c.h ∉ l[i].1.u) ↔ (x.c.k=6/\hasB l[i].1.u x.c.h=false)):=by rw[Xa]
   simp only[q1,q2]
  have e2:doW ⟨M,l.map (·.1)⟩ x=⟨M,(l.map (·.1)).set i ⟨true,Df x.c,l[i].1.u⟩⟩:=by unfold doW;rw[ae ht,ae hs,IR,TT]
  rw[e1,e2,vZ,zQ,hi]
  exact a3u h hM i rQ x.c
theorem b5i{M:Mm}{gS gH gF gL:Option Addr}{kS kH kF kL g c1 dw n0:Nat}{l1:List (Tk × TkV)}{cs:Array dU}(hM:Ok M)(hR:Rw w1 W.heap.size gS gH gF gL kS kH kF kL M)(hL:LoM dw gS gH gF gL)(T:Cf w1 dw g c1 l1)(hk:∀ p∈l1,∀ a,p.2.aK=some a->a.block<w1.heap.size/\a.block≠g/\∀ q∈l1,∀ b,q.2.aH=some b->a.block≠b.block)(h2:W.heap.size<=dw)(h0:n0<W.heap.size)(hB:w1.heap[n0]?=some (.cells cs 28 (0,0)))(hc:cs.size=6) :
  WM (w1.setCells n0 0 [Y gS M.s.length kS,Y gH M.h.length kH,Y gF M.f.length kF,Y gL M.l.length kL,O J M.w,Y (some ⟨g,0,none⟩) l1.length c1]) W.heap.size n0 W.heap.size dw gS gH gF gL kS kH kF kL M g c1 l1.length l1:=by
 have q:∀ {lo e size n:Nat} {v:dU} {xs:List dU},w1.ownsRow lo e size v n xs->W.heap.size<=lo->(w1.setCells n0 0 [Y gS M.s.length kS,Y gH M.h.length kH,Y gF M.f.length kF,Y gL M.l.length kL,O J M.w,Y (some ⟨g,0,none⟩) l1.length c1]).ownsRow lo e size v n xs:=fun {lo e size n v xs} h hl=>Cb h fun k hk=>Af (by have:=(h.lt k hk).1;omega) _ _ _
 have ig:=hM.ns;have jf:=hM.nh;have LV:=hM.nl;have hfw:=Tf hM
 refine⟨⟨Bi hB (by rw[hc];rfl),⟨q hR.s (aC _),q hR.h (aC _),q hR.f (aC _),q hR.l (aC _),hR.hf,hR.hl,hR.fl,by rw[setCells_size];exact hR.lz⟩,by omega,by omega,by omega,by omega⟩,T.same fun k _ rO=>Af (fun e=>?_) _ _ _,rfl,fun k hf ht=>?_,fun p hp a ha=>by rw[setCells_size];exact hk p hp a ha,aC _,h2⟩
 ·subst e
  rcases rO with h|⟨p,hp,a,ha,h⟩|⟨p,hp,a,ha,h⟩
  ·have:=T.glo.1;omega
  ·have:=(T.hlo hp ha).1;omega
  ·have:=T.klo p hp a ha;omega
 ·have ZC:dw<=k:=by
   rcases ht with h|⟨p,hp,a,ha,h⟩|⟨p,hp,a,ha,h⟩
   ·have:=T.glo.1;omega
   ·have:=(T.hlo hp ha).1;omega
   ·have:=T.klo p hp a ha;omega
  rcases hf with h|⟨ad,e,h⟩|⟨ad,e,h⟩|⟨ad,e,h⟩|⟨ad,e,h⟩
  ·omega
  ·have:=hL ad (.inl e);omega
  ·have:=hL ad (.inr (.inl e));omega
  ·have:=hL ad (.inr (.inr (.inl e)));omega
  ·have:=hL ad (.inr (.inr (.inr e)));omega
theorem b5n(M:Mm)(l:List (Tk × TkV))(x:Pk)(aS aH aF aL:Option Addr)(cS cH cF cL:Nat)(aT:Option Addr)(cT:Nat)(w:Wq)(A:At w aS aH aF aL cS cH cF cL M)(r:Gl w aT cT l) :
  aI Pg 15 #[.agg #[Y aS M.s.length cS,Y aH M.h.length cH,Y aF M.f.length cF,Y aL M.l.length cL,O J M.w,Y aT l.length cT],Qn x] w (DoP w ⟨M,l.map (·.1)⟩ x):=by
 unfold Qn
 obtain⟨ox,jq⟩:∃ o:Obj,o=.cells #[Y aS M.s.length cS,Y aH M.h.length cH,Y aF M.f.length cF,Y aL M.l.length cL,O J M.w,Y aT l.length cT] 28:=⟨_,rfl⟩
 obtain⟨oy,uM⟩:∃ o:Obj,o=.cells #[O J x.s,.bool x.step,.bool x.tick,O J x.c.k,O J x.c.a,O J x.c.b,O J x.c.t,O J x.c.q,O J x.c.h] 34:=⟨_,rfl⟩
 obtain⟨oz,bi⟩:∃ o:Obj,o=.cells #[Y none 0 0,Y none 0 0,Y none 0 0,Y none 0 0,O J 0,Y none 0 0] 28:=⟨_,rfl⟩
 have z1:(w.alloc ox).heap.size=w.heap.size+1:=by simp
 have z2:((w.alloc ox).alloc oy).heap.size=w.heap.size+2:=by simp
 have z3:(((w.alloc ox).alloc oy).alloc oz).heap.size=w.heap.size+3:=by simp
 have b0:Below w.heap.size w (((w.alloc ox).alloc oy).alloc oz):=(below_alloc2 w ox oy).alloc (by omega) _
 have ni:Qi ((((w.alloc ox).alloc oy).alloc oz).heap[w.heap.size]?=some ox):=by show _=_;rw[fU _ _ _ (by omega),fU _ _ _ (by omega),fP]
 have tV:Qi ((((w.alloc ox).alloc oy).alloc oz).heap[w.heap.size+1]?=some oy):=by
  have:=fP (w.alloc ox) oy
  rw[z1] at this
  show _=_
  rw[fU _ _ _ (by omega)];exact this
 have rC:Qi ((((w.alloc ox).alloc oy).alloc oz).heap[w.heap.size+2]?=some oz):=by
  have:=fP ((w.alloc ox).alloc oy) oz
  rwa [z2] at this
 have ul:Qi (At (((w.alloc ox).alloc oy).alloc oz) aS aH aF aL cS cH cF cL M):=A.below b0
 have xh:Qi (Gl (((w.alloc ox).alloc oy).alloc oz) aT cT l):=r.below b0
 obtain⟨C0,wY⟩:∃ C0,C0=wE ⟨M,l.map (·.1)⟩:=⟨_,rfl⟩
 have ny:Qi (C0=wE ⟨M,l.map (·.1)⟩):=wY
 have l6:Qi ((((w.alloc ox).alloc oy).alloc oz).rangeAt w.heap.size 0 [Y aS M.s.length cS,Y aH M.h.length cH,Y aF M.f.length cF,Y aL M.l.length cL,O J M.w,Y aT l.length cT]):=by
  have:=ni.o
  rw[jq] at this ⊢
  exact Aq this rfl
 clear A r wY z1 z2
 go_enter func15,ntmps15
 subst jq uM bi
 go_wp2_with (refine F8 rfl _ rfl rfl l6.o ?_)
 generalize ((w.alloc _).alloc _).alloc _=W0 at *
 clear l6
 refine(Qr M l aS aH aF aL cS cH cF cL aT cT W0 ul.o xh.o).mono ?_
 rw[<- ny.o]
 rintro e w1 ⟨rfl,bu⟩
 have ug:Qi (w1.heap[w.heap.size]?=_):=(bu.block _ (fC ni.o)).trans ni.o
 have yx:Qi (w1.heap[w.heap.size+1]?=_):=(bu.block _ (fC tV.o)).trans tV.o
 have tN:Qi (w1.heap[w.heap.size+2]?=_):=(bu.block _ (fC rC.o)).trans rC.o
 have yD:Qi (At w1 aS aH aF aL cS cH cF cL M):=ul.o.below bu
 have ww:Qi (Gl w1 aT cT l):=xh.o.below bu
 have b1:Below w.heap.size w w1:=b0.trans (bu.mono b0.size)
 have zz1:w.heap.size+3<=w1.heap.size:=by have:=bu.size;omega
 clear ni tV rC ul xh bu b0 z3
 by_cases hC:C0=0
 rotate_left
 ·have h':(C0 != 0)=true:=by simpa using hC
  have HE:Qi (DoE ⟨M,l.map (·.1)⟩ x=C0/\C0≠0):=⟨by unfold DoE;rw[<- ny.o,af hC],hC⟩
  have t6:Qi (w1.there (w.heap.size+2) 0 6):=Be tN.o (by simp)
  have rG:Qi ((w1.setCells (w.heap.size+2) 0 [Y none 0 0,Y none 0 0,Y none 0 0,Y none 0 0,O J 0,Y none 0 0]).heap[w.heap.size+2]?=some (.cells #[Y none 0 0,Y none 0 0,Y none 0 0,Y none 0 0,O J 0,Y none 0 0] 28 (0,0))):=Bi tN.o rfl
  have b2:Below w.heap.size w (w1.setCells (w.heap.size+2) 0 [Y none 0 0,Y none 0 0,Y none 0 0,Y none 0 0,O J 0,Y none 0 0]):=Bd b1 (by omega)
  clear ug yx tN yD ww hC ny
  go_wp2_with (refine Iu rfl _ _ rfl rfl rfl t6.o (by kernel_rfl) ?_)
  generalize w1.setCells (w.heap.size+2) 0 _=W2 at *
  obtain⟨r0,r1,r2,r3,r4,r5,rs⟩:=Bh rG.o
  refine gZ (v:=.tuple #[.agg #[Y none 0 0,Y none 0 0,Y none 0 0,Y none 0 0,O J 0,Y none 0 0],O J (C0)]) (by simp[iH,results15,go_sem,r0,r1,r2,r3,r4,r5]) rfl ?_
  refine⟨_,by rw[HE.o.1],?_,b2⟩
  rw[ae (by rw[HE.o.1];exact HE.o.2)]
  exact a2o _ _
 have HW:Qi (wE ⟨M,l.map (·.1)⟩=0):=by show _=_;rw[<- ny.o];exact hC
 have HDE:Qi (DoE ⟨M,l.map (·.1)⟩ x=doE ⟨M,l.map (·.1)⟩ x):=by show _=_;unfold DoE;rw[HW.o,ae (by simp)]
 subst hC
 have l6:Qi (w1.rangeAt w.heap.size 0 [Y aS M.s.length cS,Y aH M.h.length cH,Y aF M.f.length cF,Y aL M.l.length cL,O J M.w,Y aT l.length cT]):=Aq ug.o rfl
 have FC:=Ko.1 HW.o
 have hM:Ok M:=(Ky M).1 FC.1
 have BP:Qi (aI Pg 57 #[.agg #[Y aS M.s.length cS,Y aH M.h.length cH,Y aF M.f.length cF,Y aL M.l.length cL,O J M.w,Y aT l.length cT]] w1 (b3c w1 M (l.map (·.1)))):=a5t M l aS aH aF aL cS cH cF cL aT cT w1 yD.o ww.o (by simpa using FC.2.1) (by simpa using FC.2.2.1) (fun p hp=>by have:=(Po.1 (FC.2.2.2 p.1 (List.mem_map.2 ⟨p,hp,rfl⟩))).1;omega)
 clear FC yD ww ny
 go_wp2_with (refine F8 rfl _ rfl rfl l6.o ?_)
 refine BP.o.mono ?_
 rintro e w2 ⟨gS,gH,gF,gL,kS,kH,kF,kL,g,c1,l1,dw,rfl,VJ,MI,VG,yt,GH,hlo2,dm⟩
 have sZ:Qi (w2.heap[w.heap.size]?=_):=(dm.block _ (fC ug.o)).trans ug.o
 have MV:Qi (WM (w2.setCells w.heap.size 0 [Y gS M.s.length kS,Y gH M.h.length kH,Y gF M.f.length kF,Y gL M.l.length kL,O J M.w,Y (some ⟨g,0,none⟩) l1.length c1]) w1.heap.size w.heap.size w1.heap.size dw gS gH gF gL kS kH kF kL M g c1 l1.length l1):=b5i hM VJ MI VG yt hlo2 (by omega) sZ.o rfl
 have MQ:Qi ((w2.setCells w.heap.size 0 [Y gS M.s.length kS,Y gH M.h.length kH,Y gF M.f.length kF,Y gL M.l.length kL,O J M.w,Y (some ⟨g,0,none⟩) l1.length c1]).heap[w.heap.size+1]?=_):=(Af (by omega) _ _ _).trans ((dm.block _ (fC yx.o)).trans yx.o)
 have uF:Qi ((w2.setCells w.heap.size 0 [Y gS M.s.length kS,Y gH M.h.length kH,Y gF M.f.length kF,Y gL M.l.length kL,O J M.w,Y (some ⟨g,0,none⟩) l1.length c1]).heap[w.heap.size+2]?=_):=(Af (by omega) _ _ _).trans ((dm.block _ (fC tN.o)).trans tN.o)
 have b3:Below w.heap.size w (w2.setCells w.heap.size 0 [Y gS M.s.length kS,Y gH M.h.length kH,Y gF M.f.length kF,Y gL M.l.length kL,O J M.w,Y (some ⟨g,0,none⟩) l1.length c1]):=Bd (b1.trans (dm.mono b1.size)) (aC _)
 have t6:Qi (w2.there w.heap.size 0 6):=Be sZ.o (by simp)
 have WV:Qi (wE ⟨M,l1.map (·.1)⟩=0):=by show _=_;rw[GH];exact HW.o
 have PY:Qi (DoE ⟨M,l.map (·.1)⟩ x=doE ⟨M,l1.map (·.1)⟩ x/\doW ⟨M,l.map (·.1)⟩ x=doW ⟨M,l1.map (·.1)⟩ x):=⟨by rw[HDE.o,GH],by rw[GH]⟩
 clear ug yx tN sZ VJ MI VG yt GH hlo2 dm BP b1 l6 HW HDE hM
 have lX:Qi ((w2.setCells w.heap.size 0 [Y gS M.s.length kS,Y gH M.h.length kH,Y gF M.f.length kF,Y gL M.l.length kL,O J M.w,Y (some ⟨g,0,none⟩) l1.length c1]).rangeAt (w.heap.size+1) 0 [O J x.s,.bool x.step,.bool x.tick,O J x.c.k,O J x.c.a,O J x.c.b,O J x.c.t,O J x.c.q,O J x.c.h]):=Aq MQ.o rfl
 obtain⟨EE,hEE⟩:∃ EE,EE=DoE ⟨M,l.map (·.1)⟩ x:=⟨_,rfl⟩
 obtain⟨WW,hWW⟩:∃ WW,WW=doW ⟨M,l.map (·.1)⟩ x:=⟨_,rfl⟩
 have XZ:Qi (EE=DoE ⟨M,l.map (·.1)⟩ x/\WW=doW ⟨M,l.map (·.1)⟩ x):=⟨hEE,hWW⟩
 have HPk:Qi (aI Pg 58 #[Ae w.heap.size,Qn x] (w2.setCells w.heap.size 0 [Y gS M.s.length kS,Y gH M.h.length kH,Y gF M.f.length kF,Y gL M.l.length kL,O J M.w,Y (some ⟨g,0,none⟩) l1.length c1]) (Ya w1.heap.size w.heap.size EE WW (w2.setCells w.heap.size 0 [Y gS M.s.length kS,Y gH M.h.length kH,Y gF M.f.length kF,Y gL M.l.length kL,O J M.w,Y (some ⟨g,0,none⟩) l1.length c1]))):=by
  have h:=b0x MV.o WV.o x
  rw[<- PY.o.1,<- PY.o.2,<- hEE,<- hWW] at h
  exact h
 clear hEE hWW MV WV PY
 dsimp only
 iterate 1 (first|go_values|go_skip|go_guarded|go_step|go_upon)
 refine Iu rfl _ _ rfl rfl rfl t6.o (by kernel_rfl) ?_
 clear t6
 generalize w2.setCells w.heap.size 0 _=W3 at *
 go_wp2_with (refine Vl rfl _ rfl rfl lX.o ?_)
 clear lX MQ
 refine HPk.o.mono ?_
 rintro e w4 ⟨rfl,hp⟩
 have QE:=fC uF.o
 rcases hp with ⟨hE,qK⟩|⟨rfl,xK,xN,xO,xM,xE,xI,xJ,xG,xe,xC,l2,qW,hA,JO,zY,wK,tC,hK⟩
 ·have GV:Qi (w4.heap[w.heap.size+2]?=_):=(qK.block _ (by omega)).trans uF.o
  have h':(EE != 0)=true:=by simpa using hE
  have t6:Qi (w4.there (w.heap.size+2) 0 6):=Be GV.o (by simp)
  have GU:Qi ((w4.setCells (w.heap.size+2) 0 [Y none 0 0,Y none 0 0,Y none 0 0,Y none 0 0,O J 0,Y none 0 0]).heap[w.heap.size+2]?=some (.cells #[Y none 0 0,Y none 0 0,Y none 0 0,Y none 0 0,O J 0,Y none 0 0] 28 (0,0))):=Bi GV.o rfl
  have b5:Below w.heap.size w (w4.setCells (w.heap.size+2) 0 [Y none 0 0,Y none 0 0,Y none 0 0,Y none 0 0,O J 0,Y none 0 0]):=Bd (b3.trans (qK.mono (by omega))) (by omega)
  have HNe:Qi (EE≠0):=hE
  clear uF GV qK hE HPk
  go_wp2_with (refine Iu rfl _ _ rfl rfl rfl t6.o (by kernel_rfl) ?_)
  generalize w4.setCells (w.heap.size+2) 0 _=W5 at *
  obtain⟨r0,r1,r2,r3,r4,r5,rs⟩:=Bh GU.o
  refine gZ (v:=.tuple #[.agg #[Y none 0 0,Y none 0 0,Y none 0 0,Y none 0 0,O J 0,Y none 0 0],O J (EE)]) (by simp[iH,results15,go_sem,r0,r1,r2,r3,r4,r5]) rfl ?_
  refine⟨_,by rw[<- XZ.o.1],?_,b5⟩
  rw[<- XZ.o.1,ae HNe.o]
  exact a2o _ _
 ·have GV:Qi (w4.heap[w.heap.size+2]?=_):=(hK.block _ (by omega) (by omega)).trans uF.o
  have t6:Qi (w4.there (w.heap.size+2) 0 6):=Be GV.o (by simp)
  have l6:Qi (w4.rangeAt w.heap.size 0 [Y xK WW.m.s.length xE,Y xN WW.m.h.length xI,Y xO WW.m.f.length xJ,Y xM WW.m.l.length xG,O J WW.m.w,Y xe (nC l2) xC]):=Aq qW rfl
  have GU:Qi ((w4.setCells (w.heap.size+2) 0 [Y xK WW.m.s.length xE,Y xN WW.m.h.length xI,Y xO WW.m.f.length xJ,Y xM WW.m.l.length xG,O J WW.m.w,Y xe (nC l2) xC]).heap[w.heap.size+2]?=some (.cells #[Y xK WW.m.s.length xE,Y xN WW.m.h.length xI,Y xO WW.m.f.length xJ,Y xM WW.m.l.length xG,O J WW.m.w,Y xe (nC l2) xC] 28 (0,0))):=Bi GV.o rfl
  have b5:Below w.heap.size w (w4.setCells (w.heap.size+2) 0 [Y xK WW.m.s.length xE,Y xN WW.m.h.length xI,Y xO WW.m.f.length xJ,Y xM WW.m.l.length xG,O J WW.m.w,Y xe (nC l2) xC]):=Bd (b3.trans (hK.down (by omega) (aC _))) (by omega)
  have uQ:∀ k,k≠w.heap.size+2->(w4.setCells (w.heap.size+2) 0 [Y xK WW.m.s.length xE,Y xN WW.m.h.length xI,Y xO WW.m.f.length xJ,Y xM WW.m.l.length xG,O J WW.m.w,Y xe (nC l2) xC]).heap[k]?=w4.heap[k]?:=fun k hk=>Af hk _ _ _
  have PM:Qi (Di w.heap.size (w4.setCells (w.heap.size+2) 0 [Y xK WW.m.s.length xE,Y xN WW.m.h.length xI,Y xO WW.m.f.length xJ,Y xM WW.m.l.length xG,O J WW.m.w,Y xe (nC l2) xC]) (.agg #[Y xK WW.m.s.length xE,Y xN WW.m.h.length xI,Y xO WW.m.f.length xJ,Y xM WW.m.l.length xG,O J WW.m.w,Y xe (nC l2) xC]) WW):=by
   refine⟨xK,xN,xO,xM,xE,xI,xJ,xG,xe,xC,l2,by rw[<- tC,kN],hA.off JO (g:=w.heap.size+2) (by omega) uQ,JO.mono (by omega),tC.symm,?_,wK.mono (by omega)⟩
   refine⟨zY.le,zY.max,zY.nil,?_,fun p hp=>Eo (zY.t p hp) fun _ ad e _=>uQ _ (by have:=wK.t p hp ad e;omega),fun p hp=>Uf (zY.u p hp) fun ad e=>uQ _ (by have:=wK.u p hp ad e;omega)⟩
   rcases zY.at_ with h0|⟨b,o,e,hc⟩
   ·exact .inl h0
   ·have wW:=uQ b (by have:=wK.row _ e;dsimp only at this;omega)
    exact .inr ⟨b,o,e,fun i hi q hq=>(World.cell?_of_block (a:=⟨b,o+i*16+q,none⟩) wW).trans (hc i hi q hq)⟩
  clear uF GV HPk qW hA JO zY wK tC hK uQ
  go_wp2_with (first|refine F8 rfl _ rfl rfl l6.o ?_|refine Iu rfl _ _ rfl rfl rfl t6.o (by kernel_rfl) ?_)
  generalize w4.setCells (w.heap.size+2) 0 _=W5 at *
  obtain⟨r0,r1,r2,r3,r4,r5,rs⟩:=Bh GU.o
  refine gZ (v:=.tuple #[.agg #[Y xK WW.m.s.length xE,Y xN WW.m.h.length xI,Y xO WW.m.f.length xJ,Y xM WW.m.l.length xG,O J WW.m.w,Y xe (nC l2) xC],O J (0)]) (by simp[iH,results15,go_sem,r0,r1,r2,r3,r4,r5]) rfl ?_
  refine⟨_,by rw[<- XZ.o.1],?_,b5⟩
  rw[<- XZ.o.1,af rfl,<- XZ.o.2]
  exact PM.o
end
section
open Maps
theorem We{n:Nat}{a w:Wq}(h:Below n a w):Below n a w.drew:=lW h 1
def V5:TkV:=⟨none,0,none,0⟩
theorem a3p(n:Nat):(gI #[.bool false,O J 0,O J 0,O J 0,O J 0,O J 0,O J 0,O J 0,O J 0,O J 0,O J 0,O J 0,Y none 0 0,.bool false,O J 0,Y none 0 0] (n*16)).toList=Fg (aQ n (idle,V5)):=by
 apply List.ext_getElem?
 intro j
 by_cases hj:j<n*16
 ·have h6:j / 16<(aQ n (idle,V5)).length:=by rw[nD];omega
  have hq:j % 16<16:=by omega
  have e6:j / 16*16+j % 16=j:=by omega
  have r:(Fg (aQ n (idle,V5)))[j]?=(idle.enc V5)[j % 16]?:=by
   have:=Jc (q:=j % 16) h6 hq
   rw[e6] at this
   rw[this]
   simp
  rw[r]
  have l:(gI #[.bool false,O J 0,O J 0,O J 0,O J 0,O J 0,O J 0,O J 0,O J 0,O J 0,O J 0,O J 0,Y none 0 0,.bool false,O J 0,Y none 0 0] (n*16)).toList[j]?=some ((#[.bool false,O J 0,O J 0,O J 0,O J 0,O J 0,O J 0,O J 0,O J 0,O J 0,O J 0,O J 0,Y none 0 0,.bool false,O J 0,Y none 0 0]:Array dU)[j % 16]!):=by
   simp[gI,hj]
  rw[l]
  generalize j % 16=q at hq
  have hc:q=0\/q=1\/q=2\/q=3\/q=4\/q=5\/q=6\/q=7\/q=8\/q=9\/q=10\/q=11\/q=12\/q=13\/q=14\/q=15:=by omega
  rcases hc with rfl|rfl|rfl|rfl|rfl|rfl|rfl|rfl|rfl|rfl|rfl|rfl|rfl|rfl|rfl|rfl <;> rfl
 ·rw[List.getElem?_eq_none (by simp[gI];omega),List.getElem?_eq_none (by rw[Kz];simp;omega)]
theorem newRow(n:Nat)(hX:X.toList=Fg (aQ n (idle,V5)))(yE:n<=5):Gl ((V.alloc (.cells X 49)).drew) (some ⟨V.heap.size,0,none⟩) n (aQ n (idle,V5)):=by
 have qg:X.size=n*16:=by rw[<- Array.length_toList,hX,Kz,nD]
 have jv:=World.ownsRow_lit (base:=0) (e:=49) (size:=16) V X n (Nat.zero_le _) (by unfold maxLen;omega) qg
 rw[hX] at jv
 have UA:=jv.drew
 refine⟨by simp,by simp;omega,(fun h=>by cases h),.inr ⟨V.heap.size,0,rfl,fun i hi q hq=>?_⟩,fun p hp=>?_,fun p hp=>?_⟩
 ·have h:=UA.cellAt (i*16+q) (by rw[nD] at hi;omega)
  rw[Jc hi hq] at h
  rw[dR]
  exact h
 ·rw[mZ hp];exact Nh _
 ·rw[mZ hp];exact⟨by decide,by decide,fun _=>rfl,.inl rfl⟩
def Tz(jo cu jy:Int):Int:=if Zt jo cu≠0 then 3 else if inB jy 1 5 then 0 else 3
def b5j(w:Wq)(jo cu jy:Int)(e:lZ)(w':Wq):Prop :=
 ∃ v,e=.returned (.tuple #[v,O J (Tz jo cu jy)])/\Di w.heap.size w' v (if Tz jo cu jy=0 then Zu jo.toNat cu.toNat jy.toNat else w0W)/\Below w.heap.size w w'
theorem b0r(w:Wq)(h:Zt jo cu=3):aI Pg 16 #[O J jo,O J cu,O J jy] w (b5j w jo cu jy):=by
 have HE:Qi (Tz jo cu jy=3):=by show _=_;unfold Tz;rw[h,af (by decide)]
 obtain⟨oz,bi⟩:∃ o:Obj,o=.cells #[Y none 0 0,Y none 0 0,Y none 0 0,Y none 0 0,O J 0,Y none 0 0] 28:=⟨_,rfl⟩
 have b0:Below w.heap.size w (w.alloc oz):=A7 w oz
 have rC:Qi ((w.alloc oz).heap[w.heap.size]?=some oz):=fP w oz
 have HN:Qi (∀ W,aI Pg 59 #[O J jo,O J cu] W fun e w'=>e=.returned (.tuple #[.agg #[Y none 0 0,Y none 0 0,Y none 0 0,Y none 0 0,O J 0],O J 3])/\Below W.heap.size W w'):=fun W=>b3y jo cu W h
 clear h
 go_enter func16,ntmps16
 go_wp2_with fail
 rw[<- bi]
 generalize w.alloc oz=W0 at *
 subst bi
 refine(HN.o W0).mono ?_
 rintro e w1 ⟨rfl,bu⟩
 have tN:Qi (w1.heap[w.heap.size]?=_):=(bu.block _ (fC rC.o)).trans rC.o
 have b1:Below w.heap.size w w1:=b0.trans (bu.mono b0.size)
 clear bu b0 rC
 have rG:Qi ((w1.alloc (.cells #[Y none 0 0,Y none 0 0,Y none 0 0,Y none 0 0,O J 0] 25)).heap[w.heap.size]?=_):=(fU _ _ _ (fC tN.o)).trans tN.o
 have t6:Qi ((w1.alloc (.cells #[Y none 0 0,Y none 0 0,Y none 0 0,Y none 0 0,O J 0] 25)).there w.heap.size 0 6):=Be rG.o (by simp)
 have uF:Qi (((w1.alloc (.cells #[Y none 0 0,Y none 0 0,Y none 0 0,Y none 0 0,O J 0] 25)).setCells w.heap.size 0 [Y none 0 0,Y none 0 0,Y none 0 0,Y none 0 0,O J 0,Y none 0 0]).heap[w.heap.size]?=some (.cells #[Y none 0 0,Y none 0 0,Y none 0 0,Y none 0 0,O J 0,Y none 0 0] 28 (0,0))):=Bi rG.o rfl
 have b3:Below w.heap.size w ((w1.alloc (.cells #[Y none 0 0,Y none 0 0,Y none 0 0,Y none 0 0,O J 0] 25)).setCells w.heap.size 0 [Y none 0 0,Y none 0 0,Y none 0 0,Y none 0 0,O J 0,Y none 0 0]):=Bd (b1.alloc b1.size _) (aC _)
 go_wp2_with (refine Iu rfl _ _ rfl rfl rfl t6.o (by kernel_rfl) ?_)
 generalize (w1.alloc _).setCells w.heap.size 0 _=W3 at *
 obtain⟨r0,r1,r2,r3,r4,r5,rs⟩:=Bh uF.o
 refine gZ (v:=.tuple #[.agg #[Y none 0 0,Y none 0 0,Y none 0 0,Y none 0 0,O J 0,Y none 0 0],O J (3)]) (by simp[iH,results16,go_sem,r0,r1,r2,r3,r4,r5]) rfl ?_
 refine⟨_,by rw[HE.o],?_,b3⟩
 rw[HE.o,ae (by decide)]
 exact a2o _ _
theorem b3x(jo cu:Nat)(jy:Int)(w:Wq)(h1:jo<=12)(h2:1<=cu)(h3:cu<=4):aI Pg 16 #[O J (jo:Int),O J (cu:Int),O J jy] w (b5j w jo cu jy):=by
 have hn:Zt (jo:Int) (cu:Int)=0:=by
  unfold Zt
  have e1:inB (jo:Int) 0 12=true:=(Ar _ _ _).2 ⟨by omega,by omega⟩
  have e2:inB (cu:Int) 1 4=true:=(Ar _ _ _).2 ⟨by omega,by omega⟩
  rw[e1,e2];rfl
 have HE:Qi (Tz jo cu jy=if inB jy 1 5 then 0 else 3):=by show _=_;unfold Tz;rw[hn,ae (by decide)]
 obtain⟨oz,bi⟩:∃ o:Obj,o=.cells #[Y none 0 0,Y none 0 0,Y none 0 0,Y none 0 0,O J 0,Y none 0 0] 28:=⟨_,rfl⟩
 have b0:Below w.heap.size w (w.alloc oz):=A7 w oz
 have rC:Qi ((w.alloc oz).heap[w.heap.size]?=some oz):=fP w oz
 have HN:Qi (∀ W,aI Pg 59 #[O J (jo:Int),O J (cu:Int)] W fun e w'=>∃ v,e=.returned (.tuple #[v,O J 0])/\Ans W.heap.size w' v (Vh jo cu)/\Below W.heap.size W w'):=fun W=>b6g jo cu W h1 h2 h3
 have HMy:Qi (∀ W,aI Pg 60 #[O J jy] W fun e w'=>e=.returned (.bool (inB jy 1 5))/\W=w'):=fun W=>Yx jy W
 have z0:(w.alloc oz).heap.size=w.heap.size+1:=by simp
 obtain⟨MM,hMM⟩:∃ MM,MM=Vh jo cu:=⟨_,rfl⟩
 rw[<- hMM] at HN
 have XN:Qi (MM=Vh jo cu):=hMM
 clear hn hMM
 go_enter func16,ntmps16
 go_wp2_with fail
 rw[<- bi]
 generalize w.alloc oz=W0 at *
 subst bi
 refine(HN.o W0).mono ?_
 rintro e w1 ⟨v,rfl,⟨aS,aH,aF,aL,cS,cH,cF,cL,rfl,A,hi⟩,bu⟩
 have tN:Qi (w1.heap[w.heap.size]?=_):=(bu.block _ (fC rC.o)).trans rC.o
 have b1:Below w.heap.size w w1:=b0.trans (bu.mono b0.size)
 have zz:=bu.size
 obtain⟨om,vM⟩:∃ o:Obj,o=.cells #[Y aS MM.s.length cS,Y aH MM.h.length cH,Y aF MM.f.length cF,Y aL MM.l.length cL,O J MM.w] 25:=⟨_,rfl⟩
 have rG:Qi ((w1.alloc om).heap[w.heap.size]?=_):=(fU _ _ _ (fC tN.o)).trans tN.o
 have DN:Qi ((w1.alloc om).heap[w1.heap.size]?=some om):=fP _ _
 have LC:Qi (At (w1.alloc om) aS aH aF aL cS cH cF cL MM):=A.below (A7 _ _)
 have KP:Qi (Hi4 W0.heap.size aS aH aF aL):=hi
 have b2:Below w.heap.size w (w1.alloc om):=b1.alloc b1.size _
 have z2:(w1.alloc om).heap.size=w1.heap.size+1:=by simp
 clear bu b0 rC tN A hi b1
 go_wp2_with fail
 rw[<- vM]
 refine(HMy.o _).mono ?_
 rintro e w1' ⟨rfl,rfl⟩
 generalize w1.alloc om=W2 at *
 subst vM
 rcases (nM (inB jy 1 5)).symm with ht|ht
 ·rw[ht]
  have di:Qi (Tz jo cu jy=3):=by show _=_;rw[HE.o,ht];rfl
  have t6:Qi (W2.there w.heap.size 0 6):=Be rG.o (by simp)
  have uF:Qi ((W2.setCells w.heap.size 0 [Y none 0 0,Y none 0 0,Y none 0 0,Y none 0 0,O J 0,Y none 0 0]).heap[w.heap.size]?=some (.cells #[Y none 0 0,Y none 0 0,Y none 0 0,Y none 0 0,O J 0,Y none 0 0] 28 (0,0))):=Bi rG.o rfl
  have b3:Below w.heap.size w (W2.setCells w.heap.size 0 [Y none 0 0,Y none 0 0,Y none 0 0,Y none 0 0,O J 0,Y none 0 0]):=Bd b2 (aC _)
  clear rG DN LC KP ht
  go_wp2_with (refine Iu rfl _ _ rfl rfl rfl t6.o (by kernel_rfl) ?_)
  generalize W2.setCells w.heap.size 0 _=W3 at *
  obtain⟨r0,r1,r2,r3,r4,r5,rs⟩:=Bh uF.o
  refine gZ (v:=.tuple #[.agg #[Y none 0 0,Y none 0 0,Y none 0 0,Y none 0 0,O J 0,Y none 0 0],O J (3)]) (by simp[iH,results16,go_sem,r0,r1,r2,r3,r4,r5]) rfl ?_
  refine⟨_,by rw[di.o],?_,b3⟩
  rw[di.o,ae (by decide)]
  exact a2o _ _
 ·rw[ht]
  have mr:Qi (Tz jo cu jy=0):=by show _=_;rw[HE.o,ht];rfl
  obtain⟨n,hn⟩:∃ n:Nat,jy=n:=by
   have:=(Ar _ _ _).1 ht
   exact⟨jy.toNat,(nK (by omega)).symm⟩
  subst hn
  have yE:1<=n/\n<=5:=by have:=(Ar _ _ _).1 ht;omega
  obtain⟨i0,uS,ng,qj,pq⟩:=info_parts iT
  obtain⟨q0,q1,q2,q3,q4,f0,f1,f2,f3,f4,qs⟩:=Aj DN.o
  clear ht f0 f1 f2 f3 f4
  obtain⟨X,hX⟩:∃ X,X=gI (Value.agg #[.bool false,O J 0,O J 0,O J 0,O J 0,O J 0,O J 0,O J 0,O J 0,O J 0,O J 0,O J 0,Y none 0 0,.bool false,O J 0,Y none 0 0]).cells (n*16):=⟨_,rfl⟩
  have hmk:∀ W:Wq,(Instr.makeSlice 26 (O J (n:Int)) (O J (n:Int))).run Pg W=.ok (Y (some ⟨W.heap.size,0,none⟩) n n) (W.alloc (.cells X 49)):=fun W=>by
   have h:=run_make (P:=Pg) W 26 49 i0 _ underlying26 uS ng .i64 .i64 (n:Int) (n:Int) (by omega) (Int.le_refl _) (by rw[pq];omega) (by omega)
   simp only[Int.toNat_natCast,qj] at h
   rw[hX];exact h
  have HX:Qi (X.toList=Fg (aQ n (idle,V5))):=by show _=_;rw[hX];exact a3p n
  have UG:w.heap.size<W2.heap.size:=fC rG.o
  obtain⟨y0,y1,y2,y3,y4,y5,ys⟩:=Bh rG.o
  have g0:=dP rG.o 0
  have g1:=dP rG.o 1
  have g2:=dP rG.o 2
  have g3:=dP rG.o 3
  have g4:=dP rG.o 4
  have g5:=dP rG.o 5
  have Hz2:Qi (W2.heap.size=w1.heap.size+1):=z2
  clear hX uS ng qj pq z2
  have YF:Qi (Di w.heap.size (((W2.setCells w.heap.size 0 [Y aS MM.s.length cS,Y aH MM.h.length cH,Y aF MM.f.length cF,Y aL MM.l.length cL,O J MM.w,Y (some ⟨W2.heap.size,0,none⟩) n n]).alloc (.cells X 49)).drew) (.agg #[Y aS MM.s.length cS,Y aH MM.h.length cH,Y aF MM.f.length cF,Y aL MM.l.length cL,O J MM.w,Y (some ⟨W2.heap.size,0,none⟩) n n]) (Zu jo cu n)):=by
   have z1:(W2.setCells w.heap.size 0 [Y aS MM.s.length cS,Y aH MM.h.length cH,Y aF MM.f.length cF,Y aL MM.l.length cL,O J MM.w,Y (some ⟨W2.heap.size,0,none⟩) n n]).heap.size=W2.heap.size:=setCells_size _ _ _
   have yg:∀ k,k≠w.heap.size->(W2.setCells w.heap.size 0 [Y aS MM.s.length cS,Y aH MM.h.length cH,Y aF MM.f.length cF,Y aL MM.l.length cL,O J MM.w,Y (some ⟨W2.heap.size,0,none⟩) n n]).heap[k]?=W2.heap[k]?:=fun k hk=>Af hk _ _ _
   have A1:At (W2.setCells w.heap.size 0 [Y aS MM.s.length cS,Y aH MM.h.length cH,Y aF MM.f.length cF,Y aL MM.l.length cL,O J MM.w,Y (some ⟨W2.heap.size,0,none⟩) n n]) aS aH aF aL cS cH cF cL MM:=LC.o.off KP.o (g:=w.heap.size) (by omega) yg
   have A2:At (((W2.setCells w.heap.size 0 [Y aS MM.s.length cS,Y aH MM.h.length cH,Y aF MM.f.length cF,Y aL MM.l.length cL,O J MM.w,Y (some ⟨W2.heap.size,0,none⟩) n n]).alloc (.cells X 49)).drew) aS aH aF aL cS cH cF cL MM:=A1.below (We (A7 _ _))
   have hR:=newRow (W2.setCells w.heap.size 0 [Y aS MM.s.length cS,Y aH MM.h.length cH,Y aF MM.f.length cF,Y aL MM.l.length cL,O J MM.w,Y (some ⟨W2.heap.size,0,none⟩) n n]) X n HX.o yE.2
   rw[z1] at hR
   refine⟨aS,aH,aF,aL,cS,cH,cF,cL,some ⟨W2.heap.size,0,none⟩,n,aQ n (idle,V5),?_,?_,KP.o.mono (by omega),?_,hR,⟨?_,fun p hp ad e=>?_,fun p hp ad e=>?_⟩⟩
   ·show _=Value.agg #[Y aS (Vh jo cu).s.length cS,Y aH (Vh jo cu).h.length cH,Y aF (Vh jo cu).f.length cF,Y aL (Vh jo cu).l.length cL,O J (Vh jo cu).w,Y _ (aQ n idle).length n]
    rw[<- XN.o,nD]
   ·show At _ aS aH aF aL cS cH cF cL (Vh jo cu)
    rw[<- XN.o];exact A2
   ·show aQ n idle=_
    rw[List.map_replicate]
   ·rintro ad ⟨⟩
    exact mX UG
   ·rw[mZ hp] at e;cases e
   ·rw[mZ hp] at e;cases e
  have GU:Qi ((((W2.setCells w.heap.size 0 [Y aS MM.s.length cS,Y aH MM.h.length cH,Y aF MM.f.length cF,Y aL MM.l.length cL,O J MM.w,Y (some ⟨W2.heap.size,0,none⟩) n n]).alloc (.cells X 49)).drew).heap[w.heap.size]?=some (.cells #[Y aS MM.s.length cS,Y aH MM.h.length cH,Y aF MM.f.length cF,Y aL MM.l.length cL,O J MM.w,Y (some ⟨W2.heap.size,0,none⟩) n n] 28 (0,0))):=(fU _ _ _ (by rw[setCells_size];exact UG)).trans (Bi rG.o rfl)
  have b5:Below w.heap.size w (((W2.setCells w.heap.size 0 [Y aS MM.s.length cS,Y aH MM.h.length cH,Y aF MM.f.length cF,Y aL MM.l.length cL,O J MM.w,Y (some ⟨W2.heap.size,0,none⟩) n n]).alloc (.cells X 49)).drew):=We ((Bd b2 (aC _)).alloc (by rw[setCells_size];exact mX UG) _)
  simp only[jZ,dR,Nat.reduceAdd] at YF GU b5
  go_wp2_with fail
  go_region
  generalize World.drew _=W5 at *
  clear y0 y1 y2 y3 y4 y5 ys g0 g1 g2 g3 g4 g5 q0 q1 q2 q3 q4
  obtain⟨r0,r1,r2,r3,r4,r5,rs⟩:=Bh GU.o
  go_wp2
  refine gZ (v:=.tuple #[.agg #[Y aS MM.s.length cS,Y aH MM.h.length cH,Y aF MM.f.length cF,Y aL MM.l.length cL,O J MM.w,Y (some ⟨W2.heap.size,0,none⟩) n n],O J 0]) (by simp[iH,results16,go_sem,r0,r1,r2,r3,r4,r5]) rfl ?_
  refine⟨_,by rw[mr.o],?_,b5⟩
  rw[mr.o,af rfl]
  exact YF.o
theorem b0q(w:Wq):aI Pg 16 #[O J jo,O J cu,O J jy] w (b5j w jo cu jy):=by
 by_cases h:Zt jo cu=0
 ·have h':inB jo 0 12=true/\inB cu 1 4=true:=by
   unfold Zt at h
   cases h1:inB jo 0 12 <;> cases h2:inB cu 1 4 <;> simp[h1,h2] at h ⊢
  rw[Ar,Ar] at h'
  obtain⟨m,rfl⟩:∃ m:Nat,jo=m:=⟨jo.toNat,(nK h'.1.1).symm⟩
  obtain⟨b,rfl⟩:∃ b:Nat,cu=b:=⟨cu.toNat,(nK (by omega)).symm⟩
  exact b3x m b jy w (by omega) (by omega) (by omega)
 ·refine b0r jo cu jy w ?_
  unfold Zt at h ⊢
  split at h
  ·exact absurd rfl h
  ·rename_i h2;rw[ae h2]
end
section
open Maps
structure H8(w:Wq)(ao:Option Addr)(bg:Nat)(l:List Pk):Prop where
 le:l.length<=bg
 max:l.length*64<=140737488355328
 nil:ao=none->bg=0
 at_:l.length=0\/∃ b o,ao=some ⟨b,o,none⟩/\∀ i (h:i<l.length),w.rangeAt b (o+i*9) [O J (l[i]).s,.bool (l[i]).step,.bool (l[i]).tick,O J ((l[i]).c).k,O J ((l[i]).c).a,O J ((l[i]).c).b,O J ((l[i]).c).t,O J ((l[i]).c).q,O J ((l[i]).c).h]
theorem H8.below{w w':Wq}{ao:Option Addr}{bg:Nat}{l:List Pk}(r:H8 w ao bg l)(hb:Below w.heap.size w w'):H8 w' ao bg l:=by
 refine⟨r.le,r.max,r.nil,?_⟩
 rcases r.at_ with h|⟨b,o,h,hc⟩
 ·exact .inl h
 ·refine .inr ⟨b,o,h,fun i hi=>?_⟩
  have h0:=hc i hi 0 _ rfl
  exact Ed (hc i hi) hb (cell_lt h0)
end
section
open Maps
theorem pastf{w:Wq}{B:Nat}{v0 v1 v2 v3 v4 v5 v6 v7 v8 v9 v10 v11 v12:dU}{t:TypeId}(h:w.heap[B]?=some (.cells #[v0,v1,v2,v3,v4,v5,v6,v7,v8,v9,v10,v11,v12] t (0,0))) :
  w.cell? ⟨B,0,none⟩=some v0/\w.cell? ⟨B,1,none⟩=some v1/\w.cell? ⟨B,2,none⟩=some v2/\w.cell? ⟨B,3,none⟩=some v3/\w.cell? ⟨B,4,none⟩=some v4/\w.cell? ⟨B,5,none⟩=some v5/\w.cell? ⟨B,6,none⟩=some v6/\w.cell? ⟨B,7,none⟩=some v7/\w.cell? ⟨B,8,none⟩=some v8/\w.cell? ⟨B,9,none⟩=some v9/\w.cell? ⟨B,10,none⟩=some v10/\w.cell? ⟨B,11,none⟩=some v11/\w.cell? ⟨B,12,none⟩=some v12/\B<w.heap.size :=
 ⟨by rw[dN h];rfl,by rw[dN h];rfl,by rw[dN h];rfl,by rw[dN h];rfl,by rw[dN h];rfl,by rw[dN h];rfl,by rw[dN h];rfl,by rw[dN h];rfl,by rw[dN h];rfl,by rw[dN h];rfl,by rw[dN h];rfl,by rw[dN h];rfl,by rw[dN h];rfl,fC h⟩
def b5e(w:Wq)(f:Fr)(xZ fro LD:Int)(e:lZ)(w':Wq):Prop :=
 ∃ a2 c2,e=.returned (.agg #[O J xZ,O J f.c.k,O J f.c.a,O J f.c.b,O J f.c.t,O J f.c.q,O J f.c.h,O J fro,O J LD,O J f.e,O J f.h,O J f.n,Y a2 f.t.length c2])/\Ea w' w.heap.size a2 c2 f.t/\Below w.heap.size w w'
theorem b2o(w:Wq)(r:Az w aK cK f.t) :
  aI Pg 81 #[Ai f aK cK,O J xZ,O J fro,O J LD] w (b5e w f xZ fro LD):=by
 unfold Ai
 obtain⟨ox,jq⟩:∃ o:Obj,o=.cells #[O J f.c.k,O J f.c.a,O J f.c.b,O J f.c.t,O J f.c.q,O J f.c.h,O J f.l,O J f.u,O J f.p,O J f.h,O J f.n,Y aK f.t.length cK,.bool f.d,O J f.e] 47:=⟨_,rfl⟩
 obtain⟨oy,uM⟩:∃ o:Obj,o=.cells #[O J 0,O J 0,O J 0,O J 0,O J 0,O J 0,O J 0,O J 0,O J 0,O J 0,O J 0,O J 0,Y none 0 0] 78:=⟨_,rfl⟩
 have b0:Below w.heap.size w ((w.alloc ox).alloc oy):=below_alloc2 w ox oy
 have ni:Qi (((w.alloc ox).alloc oy).heap[w.heap.size]?=some ox):=by show _=_;rw[fU _ _ _ (by simp),fP]
 have tV:Qi (((w.alloc ox).alloc oy).heap[w.heap.size+1]?=some oy):=by
  have:=fP (w.alloc ox) oy
  rwa [show (w.alloc ox).heap.size=w.heap.size+1 by simp] at this
 have IC:Qi (Az ((w.alloc ox).alloc oy) aK cK f.t):=r.below b0
 have z0:((w.alloc ox).alloc oy).heap.size=w.heap.size+2:=by simp
 clear r
 go_enter func81,ntmps81
 go_wp2_with fail
 rw[<- jq,<- uM]
 generalize (w.alloc ox).alloc oy=W0 at *
 subst jq uM
 obtain⟨f0,f1,f2,f3,f4,f5,f6,f7,f8,f9,ay,au,aj,ak,ff,fs⟩:=A8 ni.o
 have HS:Qi (∀ w':Wq,Below W0.heap.size W0 w'->w'.cell? ⟨w.heap.size,0,none⟩=some (O J f.c.k)/\w'.cell? ⟨w.heap.size,1,none⟩=some (O J f.c.a)/\w'.cell? ⟨w.heap.size,2,none⟩=some (O J f.c.b)/\w'.cell? ⟨w.heap.size,3,none⟩=some (O J f.c.t)/\w'.cell? ⟨w.heap.size,4,none⟩=some (O J f.c.q)/\w'.cell? ⟨w.heap.size,5,none⟩=some (O J f.c.h)/\w'.cell? ⟨w.heap.size,6,none⟩=some (O J f.l)/\w'.cell? ⟨w.heap.size,7,none⟩=some (O J f.u)/\w'.cell? ⟨w.heap.size,8,none⟩=some (O J f.p)/\w'.cell? ⟨w.heap.size,9,none⟩=some (O J f.h)/\w'.cell? ⟨w.heap.size,10,none⟩=some (O J f.n)/\w'.cell? ⟨w.heap.size,11,none⟩=some (Y aK f.t.length cK)/\w'.cell? ⟨w.heap.size,12,none⟩=some (.bool f.d)/\w'.cell? ⟨w.heap.size,13,none⟩=some (O J f.e)):=fun w' hb=>⟨((Ce hb).1 _ _ fs).trans f0,((Ce hb).1 _ _ fs).trans f1,((Ce hb).1 _ _ fs).trans f2,((Ce hb).1 _ _ fs).trans f3,((Ce hb).1 _ _ fs).trans f4,((Ce hb).1 _ _ fs).trans f5,((Ce hb).1 _ _ fs).trans f6,((Ce hb).1 _ _ fs).trans f7,((Ce hb).1 _ _ fs).trans f8,((Ce hb).1 _ _ fs).trans f9,((Ce hb).1 _ _ fs).trans ay,((Ce hb).1 _ _ fs).trans au,((Ce hb).1 _ _ fs).trans aj,((Ce hb).1 _ _ fs).trans ak⟩
 have HS3:Qi (∀ w2:Wq,Below W0.heap.size W0 w2->∀ w':Wq,(∀ k,k≠w.heap.size+1->w'.heap[k]?=w2.heap[k]?)->w'.cell? ⟨w.heap.size,0,none⟩=some (O J f.c.k)/\w'.cell? ⟨w.heap.size,1,none⟩=some (O J f.c.a)/\w'.cell? ⟨w.heap.size,2,none⟩=some (O J f.c.b)/\w'.cell? ⟨w.heap.size,3,none⟩=some (O J f.c.t)/\w'.cell? ⟨w.heap.size,4,none⟩=some (O J f.c.q)/\w'.cell? ⟨w.heap.size,5,none⟩=some (O J f.c.h)/\w'.cell? ⟨w.heap.size,6,none⟩=some (O J f.l)/\w'.cell? ⟨w.heap.size,7,none⟩=some (O J f.u)/\w'.cell? ⟨w.heap.size,8,none⟩=some (O J f.p)/\w'.cell? ⟨w.heap.size,9,none⟩=some (O J f.h)/\w'.cell? ⟨w.heap.size,10,none⟩=some (O J f.n)/\w'.cell? ⟨w.heap.size,11,none⟩=some (Y aK f.t.length cK)/\w'.cell? ⟨w.heap.size,12,none⟩=some (.bool f.d)/\w'.cell? ⟨w.heap.size,13,none⟩=some (O J f.e)):=fun w2 hb w' hk=>by
  have h:=HS.o w2 hb
  exact⟨(World.cell?_of_block (hk w.heap.size (by omega))).trans h.1,(World.cell?_of_block (hk w.heap.size (by omega))).trans h.2.1,(World.cell?_of_block (hk w.heap.size (by omega))).trans h.2.2.1,(World.cell?_of_block (hk w.heap.size (by omega))).trans h.2.2.2.1,(World.cell?_of_block (hk w.heap.size (by omega))).trans h.2.2.2.2.1,(World.cell?_of_block (hk w.heap.size (by omega))).trans h.2.2.2.2.2.1,(World.cell?_of_block (hk w.heap.size (by omega))).trans h.2.2.2.2.2.2.1,(World.cell?_of_block (hk w.heap.size (by omega))).trans h.2.2.2.2.2.2.2.1,(World.cell?_of_block (hk w.heap.size (by omega))).trans h.2.2.2.2.2.2.2.2.1,(World.cell?_of_block (hk w.heap.size (by omega))).trans h.2.2.2.2.2.2.2.2.2.1,(World.cell?_of_block (hk w.heap.size (by omega))).trans h.2.2.2.2.2.2.2.2.2.2.1,(World.cell?_of_block (hk w.heap.size (by omega))).trans h.2.2.2.2.2.2.2.2.2.2.2.1,(World.cell?_of_block (hk w.heap.size (by omega))).trans h.2.2.2.2.2.2.2.2.2.2.2.2.1,(World.cell?_of_block (hk w.heap.size (by omega))).trans h.2.2.2.2.2.2.2.2.2.2.2.2.2⟩
 have HL:Qi (∀ W:Wq,Below W0.heap.size W0 W->aI Pg 104 #[Y aK f.t.length cK] W fun e w'=>∃ a c,e=.returned (Y a f.t.length c)/\Ea w' W.heap.size a c f.t/\Below W.heap.size W w'):=fun W hb=>Uh aK cK f.t W (IC.o.below hb)
 have hz:W0.heap.size=w.heap.size+2:=z0
 have Hz:Qi (W0.heap.size=w.heap.size+2):=z0
 clear z0 hz ff
 go_region_held3 (fun w'=>w'.cell? ⟨w.heap.size,0,none⟩=some (O J f.c.k)/\w'.cell? ⟨w.heap.size,1,none⟩=some (O J f.c.a)/\w'.cell? ⟨w.heap.size,2,none⟩=some (O J f.c.b)/\w'.cell? ⟨w.heap.size,3,none⟩=some (O J f.c.t)/\w'.cell? ⟨w.heap.size,4,none⟩=some (O J f.c.q)/\w'.cell? ⟨w.heap.size,5,none⟩=some (O J f.c.h)/\w'.cell? ⟨w.heap.size,6,none⟩=some (O J f.l)/\w'.cell? ⟨w.heap.size,7,none⟩=some (O J f.u)/\w'.cell? ⟨w.heap.size,8,none⟩=some (O J f.p)/\w'.cell? ⟨w.heap.size,9,none⟩=some (O J f.h)/\w'.cell? ⟨w.heap.size,10,none⟩=some (O J f.n)/\w'.cell? ⟨w.heap.size,11,none⟩=some (Y aK f.t.length cK)/\w'.cell? ⟨w.heap.size,12,none⟩=some (.bool f.d)/\w'.cell? ⟨w.heap.size,13,none⟩=some (O J f.e)) (first|(refine XB.o _ (fun k hk=>?_);iterate 13 rw[dM _ _ _ _ (by dsimp only;exact hk)])|exact HS.o _ rJ.o|exact HS.o _ ⟨rfl,rfl,rfl,aC _,fun _ _=>rfl⟩) (first|(go_at_call 104;refine(HL.o _ (by exact⟨rfl,rfl,rfl,aC _,fun _ _=>rfl⟩)).mono ?_;rintro e w2 ⟨a2,c2,rfl,jk,dm⟩;have uw:Qi (Ea w2 W0.heap.size a2 c2 f.t):=jk;have rJ:Qi (Below W0.heap.size W0 w2):=⟨dm.os,dm.tape,dm.output,dm.size,dm.block⟩;have PI:Qi (w2.heap[w.heap.size+1]?=_):=(rJ.o.block _ (fC tV.o)).trans tV.o;obtain⟨y0,y1,y2,y3,y4,y5,y6,y7,y8,y9,y10,y11,y12,ys⟩:=pastf PI.o;have xR:=fun j=>dP PI.o j;have XB:Qi (∀ w':Wq,(∀ k,k≠w.heap.size+1->w'.heap[k]?=w2.heap[k]?)->w'.cell? ⟨w.heap.size,0,none⟩=some (O J f.c.k)/\w'.cell? ⟨w.heap.size,1,none⟩=some (O J f.c.a)/\w'.cell? ⟨w.heap.size,2,none⟩=some (O J f.c.b)/\w'.cell? ⟨w.heap.size,3,none⟩=some (O J f.c.t)/\w'.cell? ⟨w.heap.size,4,none⟩=some (O J f.c.q)/\w'.cell? ⟨w.heap.size,5,none⟩=some (O J f.c.h)/\w'.cell? ⟨w.heap.size,6,none⟩=some (O J f.l)/\w'.cell? ⟨w.heap.size,7,none⟩=some (O J f.u)/\w'.cell? ⟨w.heap.size,8,none⟩=some (O J f.p)/\w'.cell? ⟨w.heap.size,9,none⟩=some (O J f.h)/\w'.cell? ⟨w.heap.size,10,none⟩=some (O J f.n)/\w'.cell? ⟨w.heap.size,11,none⟩=some (Y aK f.t.length cK)/\w'.cell? ⟨w.heap.size,12,none⟩=some (.bool f.d)/\w'.cell? ⟨w.heap.size,13,none⟩=some (O J f.e)):=HS3.o w2 rJ.o;clear jk dm))
 all_goals
  have vK:Qi ((w2.setCells (w.heap.size+1) 0 [O J xZ,O J f.c.k,O J f.c.a,O J f.c.b,O J f.c.t,O J f.c.q,O J f.c.h,O J fro,O J LD,O J f.e,O J f.h,O J f.n,Y a2 f.t.length c2]).heap[w.heap.size+1]?=some (.cells #[O J xZ,O J f.c.k,O J f.c.a,O J f.c.b,O J f.c.t,O J f.c.q,O J f.c.h,O J fro,O J LD,O J f.e,O J f.h,O J f.n,Y a2 f.t.length c2] 78 (0,0))):=Bi PI.o rfl
  have uU:Qi (Ea (w2.setCells (w.heap.size+1) 0 [O J xZ,O J f.c.k,O J f.c.a,O J f.c.b,O J f.c.t,O J f.c.q,O J f.c.h,O J fro,O J LD,O J f.e,O J f.h,O J f.n,Y a2 f.t.length c2]) w.heap.size a2 c2 f.t):=(uw.o.same fun ad e=>Af (by have:=(uw.o.lt ad e).1;have:=Hz.o;omega) _ _ _).le (by have:=Hz.o;omega)
  have b4:Below w.heap.size w (w2.setCells (w.heap.size+1) 0 [O J xZ,O J f.c.k,O J f.c.a,O J f.c.b,O J f.c.t,O J f.c.q,O J f.c.h,O J fro,O J LD,O J f.e,O J f.h,O J f.n,Y a2 f.t.length c2]):=Bd (b0.trans (rJ.o.mono b0.size)) (by omega)
  simp only[jZ,dR,Nat.reduceAdd] at vK uU b4
  clear y0 y1 y2 y3 y4 y5 y6 y7 y8 y9 y10 y11 y12 ys xR f0 f1 f2 f3 f4 f5 f6 f7 f8 f9 ay au aj ak fs XB HS3 HS HL PI uw rJ
  go_wp2
  exact gZ (lV results81 _ _ (w.heap.size+1) 78 _ (0,0) _ rfl vK.o underlying78 rfl (by kernel_rfl)) rfl ⟨a2,c2,rfl,uU.o,b4⟩
end
end Go.Proofs.YthhgoenomehobaaGreat.mm
