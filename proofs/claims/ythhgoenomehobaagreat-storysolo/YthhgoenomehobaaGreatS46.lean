/- Parts. -/
import Derived.Test.YthhgoenomehobaaGreatS41
import Derived.Test.YthhgoenomehobaaGreatS04
import Derived.Test.YthhgoenomehobaaGreatS03
import Derived.Deep.QuietTactic
import Derived.BigQuiet
import Derived.Test.YthhgoenomehobaaGreatS37
namespace Go.Proofs.YthhgoenomehobaaGreat.mm
set_option maxRecDepth 100000
set_option linter.unusedVariables false
open Go.Value renaming int → O, slice → Y
open Go.IntKind renaming i64 → J
section
open Go.ChangeShapes Go.WideShapes Go.ChangeAt Go.RowKit Go.Joins Go.Deep Go.Maps
theorem a2u{M:Mm}(h:OkC M):Gx M=Bf M:=by unfold Gx Bf;rw[if_pos ((U4 _).2 h)]
theorem Ox{M:Mm}(h:OkC M):(Bf M).length<=12:=by
 unfold Bf
 rw[List.length_map]
 have:=b0s _ _ (Gi h.keys) h.Ha
 have:=h.ok.ns
 omega
theorem Qb.own{w:World}{lo c:Nat}{a:Option Addr}{l:List Fl}(h:w.ownsRow lo 61 4 (Y a l.length c) l.length (Nh l))(hm:l.length<=12):Qb w a c l:=by
 obtain⟨ao,cap,e,r⟩:=Qb.Lj h (by omega)
 injection e with e1 e2 e3
 subst e1 e3
 exact r
end
end Go.Proofs.YthhgoenomehobaaGreat.mm
