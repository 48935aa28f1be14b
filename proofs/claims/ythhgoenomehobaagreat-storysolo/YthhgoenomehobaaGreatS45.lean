/- Parts. -/
import Derived.Test.YthhgoenomehobaaGreatS41
import Derived.Test.YthhgoenomehobaaGreatS04
namespace Go.Proofs.YthhgoenomehobaaGreat.mm
set_option maxRecDepth 100000
set_option linter.unusedVariables false
open Go.Value renaming int → O, slice → Y
open Go.IntKind renaming i64 → J
section
open Go.ChangeShapes Go.WideShapes Go.ChangeAt Go.RowKit Go.Joins Go.Deep Go.Maps
theorem a7z{w:World}{lo size n c:Nat}{e:TypeId}{a:Option Addr}{xs:List Value}(h:w.ownsRow lo e size (Y a n c) n xs)(h0:0<n):∃ g,a=some ⟨g,0,none⟩/\n<=c/\lo<=g/\g<w.heap.size/\∀ j,j<n*size->w.cell? ⟨g,j,none⟩=xs[j]?:=by
 obtain⟨h1,h2⟩:=h
 rcases h2 with ⟨-,h3⟩|⟨g,cap,cur,hv,hg,hb,hn,-,hs,hc⟩
 ·omega
 ·cases hv
  refine⟨g,rfl,hn,hg,lt_of_block hb,fun j hj=>?_⟩
  rw[cell_of_block hb,<- hc,List.getElem?_take_of_lt hj]
  simp
end
end Go.Proofs.YthhgoenomehobaaGreat.mm
