/- Parts. -/
import Derived.Test.YthhgoenomehobaaGreatP16
import Derived.Test.YthhgoenomehobaaGreatP17
import Derived.Deep.RegionLawGrows
namespace Go.Proofs.YthhgoenomehobaaGreat.mm
open RowKit.Below renaming heap_alloc → fU, heap_setCell → dM, setCell → gQ
open Go renaming lt_of_block → fC, heap_alloc_new → fP, World → Wq
open Tryz
set_option maxRecDepth 100000
set_option linter.unusedVariables false
open Value renaming int → O, slice → Y
open IntKind renaming i64 → J
open Tryz renaming prog → Pg
open ChangeShapes WideShapes ChangeAt RowKit Joins Deep Go.Sort
set_option maxHeartbeats 0
variable (ao:Option Addr)(W:Wq){P:Program}{bn:Array Oper}{o:Oper}{a:Act}{w w1 w2:Wq}{n:Nat}(f:Fr)(x y:Int)(aK:Option Addr)(cK:Nat){K:Act->Wq->Prop}{Q:Exit->Act->Wq->Prop}{E:Prop}
theorem Xu(hg:o.guard=none)(f:Nat)(args:Array Value)(v:Value)(hr:(execOp a.eval o).run P w=.ok (.enter f args) w)(h:Calls P f args w fun e w'=>e=.returned v/\w=w')(hK:K (a.put o.dst v) w):if Region.wanted o (yielded bn a.tmps)=true then Oper.wp P o a w K Q else E:=by
 have hw:Region.wanted o (yielded bn a.tmps)=true:=by unfold Region.wanted;rw[hg]
 rw[af hw]
 unfold Oper.wp
 rw[hr]
 refine Calls.mono h ?_
 rintro e w' ⟨rfl,rfl⟩
 exact hK
structure Nt(w w1:Wq)(f:Fr)(x y:Int)(aK:Option Addr)(cK:Nat):Prop where
 bl:Below w.heap.size w w1
 fb:w1.heap[w.heap.size]?=some (.cells #[O J f.c.k,O J f.c.a,O J f.c.b,O J f.c.t,O J f.c.q,O J f.c.h,O J f.l,O J f.u,O J f.p,O J f.h,O J f.n,Y aK f.t.length cK,.bool f.d,O J f.e] 47 (0,0))
 kb:w1.heap[w.heap.size+1]?=some (.cells #[O J x,O J y] 30 (0,0))
 zb:w1.heap[w.heap.size+2]?=some Ah
theorem Nt.first{o ok oz:Obj}(ho:o=.cells #[O J f.c.k,O J f.c.a,O J f.c.b,O J f.c.t,O J f.c.q,O J f.c.h,O J f.l,O J f.u,O J f.p,O J f.h,O J f.n,Y aK f.t.length cK,.bool f.d,O J f.e] 47)(hk:ok=.cells #[O J x,O J y] 30)(hz:oz=Ah):Nt w (((w.alloc o).alloc ok).alloc oz) f x y aK cK:=by
 subst ho hk hz
 refine⟨(below_alloc2 w _ _).alloc (by simp;omega) _,?_,?_,?_⟩
 ·rw[fU _ _ _ (by simp;omega),fU _ _ _ (by simp)];exact fP w _
 ·rw[fU _ _ _ (by simp)]
  have:=fP (w.alloc (.cells #[O J f.c.k,O J f.c.a,O J f.c.b,O J f.c.t,O J f.c.q,O J f.c.h,O J f.l,O J f.u,O J f.p,O J f.h,O J f.n,Y aK f.t.length cK,.bool f.d,O J f.e] 47)) (.cells #[O J x,O J y] 30)
  simpa using this
 ·have:=fP ((w.alloc (.cells #[O J f.c.k,O J f.c.a,O J f.c.b,O J f.c.t,O J f.c.q,O J f.c.h,O J f.l,O J f.u,O J f.p,O J f.h,O J f.n,Y aK f.t.length cK,.bool f.d,O J f.e] 47)).alloc (.cells #[O J x,O J y] 30)) Ah
  simpa using this
theorem Nt.below{f:Fr}{x y:Int}{aK:Option Addr}{cK:Nat}(h:Nt w w1 f x y aK cK)(hb:Below w1.heap.size w1 w2):Nt w w2 f x y aK cK :=
 ⟨h.bl.trans (hb.mono h.bl.size),(hb.block _ (fC h.fb)).trans h.fb,(hb.block _ (fC h.kb)).trans h.kb,(hb.block _ (fC h.zb)).trans h.zb⟩
theorem Nt.t{f:Fr}{x y:Int}{aK:Option Addr}{cK:Nat}(h:Nt w w1 f x y aK cK)(l:List (Int × Int))(n:Nat)(hn:l.length=n)(a:Option Addr)(c:Nat):Nt w (w1.setCell ⟨w.heap.size,11,none⟩ (Y a n c)) { f with t:=l } x y a c:=by
 subst hn
 refine⟨h.bl.setCell (by simp) _,?_,by rw[dM _ _ _ _ (by dsimp only;omega)];exact h.kb,by rw[dM _ _ _ _ (by dsimp only;omega)];exact h.zb⟩
 rw[block_setCell h.fb];rfl
theorem Ea.b5q{a:Option Addr}{c:Nat}{l:List (Int × Int)}(h:Ea w1 (n+3) a c l){u v0 v1 v2 v3 v4 v5 v6 v7 v8 v9 v10 v11 v12 v13:Value}:Ea (((((((((((((((w1.setCell ⟨n,11,none⟩ u).setCell ⟨n+2,0,none⟩ v0).setCell ⟨n+2,1,none⟩ v1).setCell ⟨n+2,2,none⟩ v2).setCell ⟨n+2,3,none⟩ v3).setCell ⟨n+2,4,none⟩ v4).setCell ⟨n+2,5,none⟩ v5).setCell ⟨n+2,6,none⟩ v6).setCell ⟨n+2,7,none⟩ v7).setCell ⟨n+2,8,none⟩ v8).setCell ⟨n+2,9,none⟩ v9).setCell ⟨n+2,10,none⟩ v10).setCell ⟨n+2,11,none⟩ v11).setCell ⟨n+2,12,none⟩ v12).setCell ⟨n+2,13,none⟩ v13) n a c l :=
 (h.same fun ad e=>by
  have:=(h.lt ad e).1
  repeat rw[dM _ _ _ _ (by dsimp only;omega)]).le (by omega)
theorem b4x(x y:Value)(t:TypeId):∀ j u,[x,y][j]?=some u->((W.alloc (.cells #[x,y] t)).drew).cell? ((⟨W.heap.size,0,none⟩:Addr).add j)=some u:=by
 intro j u hu
 have hb:((W.alloc (.cells #[x,y] t)).drew).heap[W.heap.size]?=some (.cells #[x,y] t (0,0)):=fP W _
 rw[Addr.add_lit,cell_of_block hb]
 simpa using hu
theorem a9l(n bg:Nat)(w:Wq)(h:n<=bg)(zf:ao=none->n=0/\bg=0) :
  Calls Pg 217 #[Y ao n bg] w fun e w'=>e=.returned (Y ao n n)/\w=w':=by
 cases ao with
 | none =>
  obtain⟨rfl,rfl⟩:=zf rfl
  go_enter func217,ntmps217
  go_wp2
  go_ret
  exact⟨rfl,rfl⟩
 | some ad =>
  go_enter func217,ntmps217
  go_wp2
  go_ret
  exact⟨rfl,rfl⟩
theorem a7o(w:Wq)(h:¬ f.t.length<100) :
  Calls Pg 211 #[Ai f aK cK,.agg #[O J x,O J y]] w fun e w'=>e=.returned (.agg #[O J f.c.k,O J f.c.a,O J f.c.b,O J f.c.t,O J f.c.q,O J f.c.h,O J f.l,O J f.u,O J f.p,O J f.h,O J f.n,Y aK f.t.length cK,.bool f.d,O J f.e])/\Below w.heap.size w w':=by
 unfold Ai
 have h':¬ ((f.t.length:Int)<100):=by omega
 clear h
 go_enter func211,ntmps211
 go_wp2
 refine bodyPost_ret (v:=.agg #[O J f.c.k,O J f.c.a,O J f.c.b,O J f.c.t,O J f.c.q,O J f.c.h,O J f.l,O J f.u,O J f.p,O J f.h,O J f.n,Y aK f.t.length cK,.bool f.d,O J f.e]) (by simp[results,results211,go_sem]) rfl ⟨rfl,?_⟩
 repeat (first|exact Below.refl _ _|refine Below.alloc ?_ (by simp <;> omega) _|refine gQ ?_ (by simp <;> omega) _)
theorem a7p(w:Wq)(r:Az w aK cK f.t)(h:f.t.length<100) :
  Calls Pg 211 #[Ai f aK cK,.agg #[O J x,O J y]] w fun e w'=>∃ a c,e=.returned (.agg #[O J ({ f with t:=f.t ++ [(x,y)] }).c.k,O J ({ f with t:=f.t ++ [(x,y)] }).c.a,O J ({ f with t:=f.t ++ [(x,y)] }).c.b,O J ({ f with t:=f.t ++ [(x,y)] }).c.t,O J ({ f with t:=f.t ++ [(x,y)] }).c.q,O J ({ f with t:=f.t ++ [(x,y)] }).c.h,O J ({ f with t:=f.t ++ [(x,y)] }).l,O J ({ f with t:=f.t ++ [(x,y)] }).u,O J ({ f with t:=f.t ++ [(x,y)] }).p,O J ({ f with t:=f.t ++ [(x,y)] }).h,O J ({ f with t:=f.t ++ [(x,y)] }).n,Y a ({ f with t:=f.t ++ [(x,y)] }).t.length c,.bool ({ f with t:=f.t ++ [(x,y)] }).d,O J ({ f with t:=f.t ++ [(x,y)] }).e])/\Ea w' w.heap.size a c (f.t ++ [(x,y)])/\Below w.heap.size w w':=by
 unfold Ai
 have h':(f.t.length:Int)<100:=by omega
 obtain⟨i0,hi,ng,qj,pq⟩:=info_parts iK
 obtain⟨of,df⟩:=frObj f aK cK
 obtain⟨ok,qh⟩:∃ o:Obj,o=.cells #[O J x,O J y] 30:=⟨_,rfl⟩
 obtain⟨oz,bi⟩:∃ o:Obj,o=Ah:=⟨_,rfl⟩
 have HE:Qi (Nt w (((w.alloc of).alloc ok).alloc oz) f x y aK cK):=Nt.first f x y aK cK df qh bi
 have HN:Qi (aK=none->f.t.length=0/\cK=0):=fun e=>⟨by have:=r.nil e;have:=r.le;omega,r.nil e⟩
 have HN2:Qi (aK=none->f.t.length=0/\f.t.length=0):=fun e=>⟨(HN.o e).1,(HN.o e).1⟩
 have HLe:Qi (f.t.length<=cK):=r.le
 have HR:Qi (Az w aK cK f.t):=r
 have MW:Qi (f.t.length<100):=h
 obtain⟨f0,f1,f2,f3,f4,f5,f6,f7,f8,f9,ay,au,aj,ak,ff,fs⟩:=A8 HE.o.fb
 have k0:(((w.alloc of).alloc ok).alloc oz).cell? ⟨w.heap.size+1,0,none⟩=some (O J x):=by rw[cell_of_block HE.o.kb];rfl
 have k1:(((w.alloc of).alloc ok).alloc oz).cell? ⟨w.heap.size+1,1,none⟩=some (O J y):=by rw[cell_of_block HE.o.kb];rfl
 unfold Ah at bi
 clear r h
 go_enter func211,ntmps211
 go_wp2_with fail
 rw[<- df,<- qh,<- bi]
 generalize ((w.alloc of).alloc ok).alloc oz=W0 at *
 subst df qh bi
 have WZ:Qi (∀ W:Wq,Below W0.heap.size W0 W->∀ b,aK=some b->∀ j u,(G7 f.t)[j]?=some u->W.cell? (b.add j)=some u):=fun W hb=>((HR.o.below HE.o.bl).below hb).src
 have HEk:Qi ((G7 f.t).length=f.t.length*2):=Nc _
 have gm:=MW.o
 go_region_law (first
  | (refine step_append_grows rfl (.tmp 11) (.tmp 13) 45 rfl 30 i0 (.agg #[O J 0,O J 0]) 2 16 underlying45 hi ng qj pq rfl (by first|decide|exact Ex.ne _ _ (by decide)) aK f.t.length f.t.length (G7 f.t) (by simp[Act.eval]) HN2.o HEk.o (WZ.o _ (by exact(A7 _ _).drew)) ⟨W0.heap.size,0,none⟩ 1 1 [O J x,O J y] (by simp[Act.eval]) rfl (b4x _ _ _ _) (by intro u hu;simp at hu;rcases hu with rfl|rfl <;> rfl) (by omega) (by unfold maxLen;omega) (by omega) ?_;intro v w1 ou mi;obtain⟨g,bg,rfl⟩:=ownsRow_form ou (by omega);have iy:Qi (Below W0.heap.size W0 w1):=((A7 W0 (.cells #[O J x,O J y] 30)).drew).grown mi (by simp[World.drew]) (fun k h=>by cases h);have BQ:Qi (w1.ownsRow (W0.heap.size+1) 30 2 (Y (some ⟨g,0,none⟩) (f.t.length+1) bg) (f.t.length+1) (G7 f.t ++ [O J x,O J y])):=ownsRow_le ou (by simp[World.drew]);clear ou mi f0 f1 f2 f3 f4 f5 f6 f7 f8 f9 ay au aj ak ff fs;have gp:Qi (Nt w w1 f x y aK cK):=HE.o.below iy.o;obtain⟨f0,f1,f2,f3,f4,f5,f6,f7,f8,f9,ay,au,aj,ak,ff,fs⟩:=A8 gp.o.fb)
  | (refine Xu rfl 217 #[Y aK f.t.length cK] (Y aK f.t.length f.t.length) (by simp[go_sem]) (a9l aK f.t.length cK _ HLe.o HN.o) ?_))
 all_goals
  clear f0 f1 f2 f3 f4 f5 f6 f7 f8 f9 ay au aj ak ff fs
  have qg:=fC HE.o.zb
  have KO:Qi (Ea w1 (w.heap.size+3) (some ⟨g,0,none⟩) bg (f.t ++ [(x,y)])):=⟨by
   rw[show (f.t ++ [(x,y)]).length=f.t.length+1 by simp,show G7 (f.t ++ [(x,y)])=G7 f.t ++ [O J x,O J y] by simp[G7]]
   exact ownsRow_le BQ.o (by omega)⟩
  have ai:Qi (Nt w _ { f with t:=f.t ++ [(x,y)] } x y (some ⟨g,0,none⟩) bg):=gp.o.t (f.t ++ [(x,y)]) (f.t.length+1) (by simp) (some ⟨g,0,none⟩) bg
  obtain⟨f0,f1,f2,f3,f4,f5,f6,f7,f8,f9,ay,au,aj,ak,ff,fs⟩:=A8 ai.o.fb
  obtain⟨g0,g1,g2,g3,g4,g5,g6,g7,g8,g9,qm,pz,qi,qw,gf,gs⟩:=A8 ai.o.zb
  go_wp2
  refine bodyPost_ret (v:=.agg #[O J ({ f with t:=f.t ++ [(x,y)] }).c.k,O J ({ f with t:=f.t ++ [(x,y)] }).c.a,O J ({ f with t:=f.t ++ [(x,y)] }).c.b,O J ({ f with t:=f.t ++ [(x,y)] }).c.t,O J ({ f with t:=f.t ++ [(x,y)] }).c.q,O J ({ f with t:=f.t ++ [(x,y)] }).c.h,O J ({ f with t:=f.t ++ [(x,y)] }).l,O J ({ f with t:=f.t ++ [(x,y)] }).u,O J ({ f with t:=f.t ++ [(x,y)] }).p,O J ({ f with t:=f.t ++ [(x,y)] }).h,O J ({ f with t:=f.t ++ [(x,y)] }).n,Y (some ⟨g,0,none⟩) ({ f with t:=f.t ++ [(x,y)] }).t.length bg,.bool ({ f with t:=f.t ++ [(x,y)] }).d,O J ({ f with t:=f.t ++ [(x,y)] }).e]) (by simp[results,results211,go_sem,g0,g1,g2,g3,g4,g5,g6,g7,g8,g9,qm,pz,qi,qw]) rfl ⟨some ⟨g,0,none⟩,bg,(by simp),KO.o.b5q,?_⟩
  iterate 14 (refine gQ ?_ (by dsimp only;omega) _)
  exact ai.o.bl
end Go.Proofs.YthhgoenomehobaaGreat.mm
