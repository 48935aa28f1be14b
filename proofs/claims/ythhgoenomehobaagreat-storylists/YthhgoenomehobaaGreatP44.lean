/- Parts. -/
import Derived.Test.YthhgoenomehobaaGreatP41
import Derived.Test.YthhgoenomehobaaGreatP04
import Derived.Test.YthhgoenomehobaaGreatP05
import Derived.Test.YthhgoenomehobaaGreatP38
namespace Go.Proofs.YthhgoenomehobaaGreat.mm
set_option maxRecDepth 100000
set_option linter.unusedVariables false
open Go.Value renaming int → O, slice → Y
open Go.IntKind renaming i64 → J
section
open Go.ChangeShapes Go.WideShapes Go.ChangeAt Go.RowKit Go.Joins Go.Deep Go.Maps
theorem Ti{M:Mm}(h:OkC M):Eu M=Jj M:=by unfold Eu Jj;rw[if_pos ((Q9 _).2 h)]
theorem Qg{M:Mm}(h:OkC M):(Jj M).length<=12:=by
 unfold Jj
 rw[List.length_map]
 have:=few' _ _ (Hy h.keys) h.G8
 have:=h.ok.ns
 omega
theorem FRow.own{w:World}{lo c:Nat}{a:Option Addr}{l:List Fl}(h:w.ownsRow lo 61 4 (Y a l.length c) l.length (encF l))(hm:l.length<=12):FRow w a c l:=by
 obtain⟨ao,cap,e,r⟩:=FRow.Jm h (by omega)
 injection e with e1 e2 e3
 subst e1 e3
 exact r
end
end Go.Proofs.YthhgoenomehobaaGreat.mm
