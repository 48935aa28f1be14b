/- Parts. -/
import Derived.Test.YthhgoenomehobaaGreatE15
import Derived.Test.YthhgoenomehobaaGreatE09
namespace Go.Proofs.YthhgoenomehobaaGreat.mm
set_option maxRecDepth 100000
set_option linter.unusedVariables false
section
open Go.ChangeShapes Go.WideShapes Go.ChangeAt Go.RowKit Go.Joins
variable {Xb : Ex}
theorem a2j {w w1 : World} {n : Nat} {a aK : Option Addr} {c cK : Nat} {l : List (Int × Int)} {v0 v1 v2 v3 v4 v5 v6 v7 v8 v9 v10 v11 v12 v13 : Value} (hn : n = w.heap.size) (r : KRow w1 a c l) (r0 : KRow w aK cK l) (hl : ∀ ad,a = some ad->aK = some ad\/n + 2<=ad.block) :
    KRow ((((((((((((((w1.setCell ⟨n + 1,0,none⟩ v0).setCell ⟨n + 1,1,none⟩ v1).setCell ⟨n + 1,2,none⟩ v2).setCell ⟨n + 1,3,none⟩ v3).setCell ⟨n + 1,4,none⟩ v4).setCell ⟨n + 1,5,none⟩ v5).setCell ⟨n + 1,6,none⟩ v6).setCell ⟨n + 1,7,none⟩ v7).setCell ⟨n + 1,8,none⟩ v8).setCell ⟨n + 1,9,none⟩ v9).setCell ⟨n + 1,10,none⟩ v10).setCell ⟨n + 1,11,none⟩ v11).setCell ⟨n + 1,12,none⟩ v12).setCell ⟨n + 1,13,none⟩ v13) a c l:=by
  refine ⟨r.le,r.max,r.nil,?_⟩
  by_cases h0 : l.length = 0
  · exact .inl h0
  rcases r.at_ with h | ⟨b,o,e,hc⟩
  · exact absurd h h0
  · refine .inr ⟨b,o,e,fun i hi => ?_⟩
    have hb : b ≠ n + 1:=by
      rcases hl _ e with h | h
      · rcases r0.at_ with h' | ⟨b',o',e',hc'⟩
        · exact absurd h' h0
        · have:=a0m (hc' 0 (by omega)).1
          rw [h] at e'
          injection e' with e'
          injection e' with e'
          omega
      · dsimp only at h; omega
    have q : ∀ x,(((((((((((((((w1.setCell ⟨n + 1,0,none⟩ v0).setCell ⟨n + 1,1,none⟩ v1).setCell ⟨n + 1,2,none⟩ v2).setCell ⟨n + 1,3,none⟩ v3).setCell ⟨n + 1,4,none⟩ v4).setCell ⟨n + 1,5,none⟩ v5).setCell ⟨n + 1,6,none⟩ v6).setCell ⟨n + 1,7,none⟩ v7).setCell ⟨n + 1,8,none⟩ v8).setCell ⟨n + 1,9,none⟩ v9).setCell ⟨n + 1,10,none⟩ v10).setCell ⟨n + 1,11,none⟩ v11).setCell ⟨n + 1,12,none⟩ v12).setCell ⟨n + 1,13,none⟩ v13)).cell? ⟨b,x,none⟩ = w1.cell? ⟨b,x,none⟩:=fun x => World.cell?_of_block (a:=⟨b,x,none⟩) (by
      dsimp only
      repeat rw [Below.heap_setCell _ _ _ _ (by dsimp only; exact hb)])
    rw [q,q]
    exact hc i hi
end
end Go.Proofs.YthhgoenomehobaaGreat.mm
