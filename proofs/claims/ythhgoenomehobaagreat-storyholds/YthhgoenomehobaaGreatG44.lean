/- Parts. -/
import Derived.Test.YthhgoenomehobaaGreatG03
import Derived.Test.YthhgoenomehobaaGreatG02
import Derived.Deep.QuietTactic
import Derived.BigQuiet
import Derived.Laws.StructEq
import Derived.Test.YthhgoenomehobaaGreatG04
import Derived.Test.YthhgoenomehobaaGreatG43
import Derived.Test.YthhgoenomehobaaGreatG19
namespace Go.Proofs.YthhgoenomehobaaGreat.mm
set_option maxRecDepth 100000
set_option linter.unusedVariables false
open Go.Value renaming int → O, slice → Y
open Go.IntKind renaming i64 → J
section
open Go.ChangeShapes Go.WideShapes Go.ChangeAt Go.RowKit Go.Joins Go.Maps
theorem any_snoc{p:Fl->Bool}{l:List Fl}{k:Nat}(h:k<l.length)(h0:(l.take k).any p=false)(hx:p l[k]=false):(l.take (k+1)).any p=false:=by
 rw[List.take_succ_eq_append_getElem h,List.any_append,h0]
 simp[hx]
end
section
open Go.ChangeShapes Go.WideShapes Go.ChangeAt Go.RowKit Go.Joins Go.Deep Go.Maps
theorem a2g{M:Mm}(h:OkC M):Fh M=Bj M:=by unfold Fh Bj;rw[if_pos ((Sj _).2 h)]
theorem Yx{M:Mm}(h:OkC M):(Bj M).length<=12:=by
 unfold Bj
 rw[List.length_map]
 have:=few' _ _ (F6 h.keys) h.Eo
 have:=h.ok.ns
 omega
theorem FRow.own{w:World}{lo c:Nat}{a:Option Addr}{l:List Fl}(h:w.ownsRow lo 61 4 (Y a l.length c) l.length (encF l))(hm:l.length<=12):FRow w a c l:=by
 obtain⟨ao,cap,e,r⟩:=FRow.Ky h (by omega)
 injection e with e1 e2 e3
 subst e1 e3
 exact r
end
end Go.Proofs.YthhgoenomehobaaGreat.mm
