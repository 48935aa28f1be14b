/- Parts. -/
import Derived.Test.YthhgoenomehobaaGreatS48
import Derived.Test.YthhgoenomehobaaGreatS06
namespace Go.Proofs.YthhgoenomehobaaGreat.mm
set_option maxRecDepth 100000
set_option linter.unusedVariables false
section
open Go.ChangeShapes Go.WideShapes Go.ChangeAt Go.RowKit Go.Joins Go.Deep
theorem a6b:Tryz.prog.bytesOf 32=48:=by kernel_rfl
variable {H:Type} {enc:TypeId × Value->H} {w:World}
theorem open_crow{fuel:Nat}{c:Value}{x:DataW H × List MemPlace}(h:DataW.trod enc Tryz.prog w 0 (fun _=>true) true fuel 82 [c]=some x)(hz:∀ n∈x.1.weights Tryz.prog 82,n<=reachBytes) :
  ∃ l ao cap,c=.slice ao l.length cap/\Y3 w ao cap l:=by
 rcases open_slice Tryz.underlying82 h with ⟨e,-⟩|⟨a,len,cap,m,n,D,Pl,e,hb,hl,hm,hmm,hx,hc⟩
 ·simp at e
  exact⟨[],none,0,e,Nat.zero_le _,by decide,fun _=>rfl,.inl rfl⟩
 ·simp at e hmm
  subst e hmm
  rw[Ye] at hc
  obtain⟨S,hS⟩:=@choose_lt Cl ⟨⟨0,0,0,0,0,0⟩⟩ len (fun i s=>w.cells? 0 (a.add (i*6)) 6=some [.int .i64 s.kind,.int .i64 s.a,.int .i64 s.b,.int .i64 s.time,.int .i64 s.bk,.int .i64 s.slot]) (fun i hi=>by
   obtain⟨cs',h1,h2⟩:=hc i (by omega)
   obtain⟨s,rfl⟩:=a9h h2
   exact⟨s,h1⟩)
  have hlt:((List.range len).map S).length=len:=by simp
  refine⟨(List.range len).map S,some a,m,by rw[hlt],by omega,?_,(fun h=>by cases h),?_⟩
  ·rw[hx] at hz
   have:=hz ((len+(m - len))*48) (by simp[DataW.weights,Tryz.underlying82,a6b])
   unfold reachBytes at this
   rw[hlt]
   omega
  ·by_cases h0:len=0
   ·left;omega
   ·right
    obtain⟨b,off,spot⟩:=a
    have hspot:spot=none:=by
     have:=(World.cells?_some (hS 0 (by omega))).2.2 0 (by omega)
     simpa [Addr.add] using World.cell?_spot this
    subst hspot
    refine⟨b,off,rfl,fun i hi=>?_⟩
    have hi':i<len:=by simpa using hi
    have e:((List.range len).map S)[i]=S i:=by simp
    rw[e]
    intro q v hv
    have hq:q<6:=by simpa using (List.getElem?_eq_some_iff.1 hv).1
    have:=(World.cells?_some (hS i hi')).2.2 q hq
    rw[Addr.add_lit,Addr.add_lit] at this
    rw[this];exact hv
end
end Go.Proofs.YthhgoenomehobaaGreat.mm
