/- Parts. -/
import Derived.Test.YthhgoenomehobaaGreatP14
import Derived.Test.YthhgoenomehobaaGreatP08
import Derived.Test.YthhgoenomehobaaGreatP22
import Derived.Test.YthhgoenomehobaaGreatP02
import Derived.ArgAppend
import Derived.Deep.RegionLawGrows
import Derived.Laws.AppendOwnNone
namespace Go.Proofs.YthhgoenomehobaaGreat.mm
set_option maxRecDepth 100000
set_option linter.unusedVariables false
open Go.Value renaming int → O, slice → Y
open Go.IntKind renaming i64 → J
open Go.Proofs.Tryz renaming prog → Pg
open Go renaming World → Wq
open Go.ChangeShapes Go.WideShapes Go.ChangeAt Go.RowKit Go.Joins Go.Deep Go.Sort
set_option maxHeartbeats 3200000
section
theorem Vw{P:Program}{ops:Array Oper}{o:Oper}{a:Act}{w:Wq}{K:Act->Wq->Prop}{Q:Exit->Act->Wq->Prop}{E:Prop}(hg:o.guard=none)(f:Nat)(args:Array Value)(v:Value)
  (hr:(execOp a.eval o).run P w=.ok (.enter f args) w) (h:Calls P f args w fun e w'=>e=.returned v/\w=w') (hK:K (a.put o.dst v) w):if Region.wanted o (yielded ops a.tmps)=true then Oper.wp P o a w K Q else E:=by
 have hw:Region.wanted o (yielded ops a.tmps)=true:=by unfold Region.wanted;rw[hg]
 rw[if_pos hw]
 unfold Oper.wp
 rw[hr]
 refine Calls.mono h ?_
 rintro e w' ⟨rfl,rfl⟩
 exact hK
structure Nt(w w1:Wq)(f:Fr)(x y:Int)(aK:Option Addr)(cK:Nat):Prop where
 bl:Below w.heap.size w w1
 fb:w1.heap[w.heap.size]?=some (.cells #[O J f.c.kind,O J f.c.a,O J f.c.b,O J f.c.time,O J f.c.bk,O J f.c.slot,O J f.pl,O J f.cur,O J f.prev,O J f.slot,O J f.n,Y aK f.keys.length cK,.bool f.done,O J f.e] 47 (0,0))
 kb:w1.heap[w.heap.size+1]?=some (.cells #[O J x,O J y] 30 (0,0))
 zb:w1.heap[w.heap.size+2]?=some Ae
theorem Nt.first{w:Wq}(f:Fr)(x y:Int)(aK:Option Addr)(cK:Nat){o ok oz:Obj}(ho:o=.cells #[O J f.c.kind,O J f.c.a,O J f.c.b,O J f.c.time,O J f.c.bk,O J f.c.slot,O J f.pl,O J f.cur,O J f.prev,O J f.slot,O J f.n,Y aK f.keys.length cK,.bool f.done,O J f.e] 47)(hk:ok=.cells #[O J x,O J y] 30)(hz:oz=Ae):Nt w (((w.alloc o).alloc ok).alloc oz) f x y aK cK:=by
 subst ho hk hz
 refine⟨(below_alloc2 w _ _).alloc (by simp;omega) _,?_,?_,?_⟩
 ·rw[Below.heap_alloc _ _ _ (by simp;omega),Below.heap_alloc _ _ _ (by simp)];exact heap_alloc_new w _
 ·rw[Below.heap_alloc _ _ _ (by simp)]
  have:=heap_alloc_new (w.alloc (.cells #[O J f.c.kind,O J f.c.a,O J f.c.b,O J f.c.time,O J f.c.bk,O J f.c.slot,O J f.pl,O J f.cur,O J f.prev,O J f.slot,O J f.n,Y aK f.keys.length cK,.bool f.done,O J f.e] 47)) (.cells #[O J x,O J y] 30)
  simpa using this
 ·have:=heap_alloc_new ((w.alloc (.cells #[O J f.c.kind,O J f.c.a,O J f.c.b,O J f.c.time,O J f.c.bk,O J f.c.slot,O J f.pl,O J f.cur,O J f.prev,O J f.slot,O J f.n,Y aK f.keys.length cK,.bool f.done,O J f.e] 47)).alloc (.cells #[O J x,O J y] 30)) Ae
  simpa using this
theorem Nt.below{w w1 w2:Wq}{f:Fr}{x y:Int}{aK:Option Addr}{cK:Nat}(h:Nt w w1 f x y aK cK)(hb:Below w1.heap.size w1 w2):Nt w w2 f x y aK cK :=
 ⟨h.bl.trans (hb.mono h.bl.size),(hb.block _ (lt_of_block h.fb)).trans h.fb,(hb.block _ (lt_of_block h.kb)).trans h.kb,(hb.block _ (lt_of_block h.zb)).trans h.zb⟩
theorem Nt.keys{w w1:Wq}{f:Fr}{x y:Int}{aK:Option Addr}{cK:Nat}(h:Nt w w1 f x y aK cK)(l:List (Int × Int))(n:Nat)(hn:l.length=n)(a:Option Addr)(c:Nat):Nt w (w1.setCell ⟨w.heap.size,11,none⟩ (Y a n c)) { f with keys:=l } x y a c:=by
 subst hn
 refine⟨h.bl.setCell (by simp) _,?_,by rw[Below.heap_setCell _ _ _ _ (by dsimp only;omega)];exact h.kb,by rw[Below.heap_setCell _ _ _ _ (by dsimp only;omega)];exact h.zb⟩
 rw[block_setCell h.fb];rfl
theorem Dk.b3h{w1:Wq}{n:Nat}{a:Option Addr}{c:Nat}{l:List (Int × Int)}(h:Dk w1 (n+3) a c l){u v0 v1 v2 v3 v4 v5 v6 v7 v8 v9 v10 v11 v12 v13:Value}:Dk (((((((((((((((w1.setCell ⟨n,11,none⟩ u).setCell ⟨n+2,0,none⟩ v0).setCell ⟨n+2,1,none⟩ v1).setCell ⟨n+2,2,none⟩ v2).setCell ⟨n+2,3,none⟩ v3).setCell ⟨n+2,4,none⟩ v4).setCell ⟨n+2,5,none⟩ v5).setCell ⟨n+2,6,none⟩ v6).setCell ⟨n+2,7,none⟩ v7).setCell ⟨n+2,8,none⟩ v8).setCell ⟨n+2,9,none⟩ v9).setCell ⟨n+2,10,none⟩ v10).setCell ⟨n+2,11,none⟩ v11).setCell ⟨n+2,12,none⟩ v12).setCell ⟨n+2,13,none⟩ v13) n a c l :=
 (h.same fun ad e=>by
  have:=(h.lt ad e).1
  repeat rw[Below.heap_setCell _ _ _ _ (by dsimp only;omega)]).le (by omega)
theorem b2n(W:Wq)(x y:Value)(t:TypeId):∀ j u,[x,y][j]?=some u->((W.alloc (.cells #[x,y] t)).drew).cell? ((⟨W.heap.size,0,none⟩:Addr).add j)=some u:=by
 intro j u hu
 have hb:((W.alloc (.cells #[x,y] t)).drew).heap[W.heap.size]?=some (.cells #[x,y] t (0,0)):=heap_alloc_new W _
 rw[Addr.add_lit,cell_of_block hb]
 simpa using hu
theorem a7b(ao:Option Addr)(n cap:Nat)(w:Wq)(h:n<=cap)(hnil:ao=none->n=0/\cap=0) :
  Calls Pg 217 #[Y ao n cap] w fun e w'=>e=.returned (Y ao n n)/\w=w':=by
 cases ao with
 | none =>
  obtain⟨rfl,rfl⟩:=hnil rfl
  go_enter Tryz.func217,Tryz.ntmps217
  go_wp2
  go_ret
  exact⟨rfl,rfl⟩
 | some ad =>
  go_enter Tryz.func217,Tryz.ntmps217
  go_wp2
  go_ret
  exact⟨rfl,rfl⟩
theorem a5b(f:Fr)(x y:Int)(aK:Option Addr)(cK:Nat)(w:Wq)(h:¬ f.keys.length<100) :
  Calls Pg 211 #[.agg #[O J f.c.kind,O J f.c.a,O J f.c.b,O J f.c.time,O J f.c.bk,O J f.c.slot,O J f.pl,O J f.cur,O J f.prev,O J f.slot,O J f.n,Y aK f.keys.length cK,.bool f.done,O J f.e],.agg #[O J x,O J y]] w fun e w'=>e=.returned (.agg #[O J f.c.kind,O J f.c.a,O J f.c.b,O J f.c.time,O J f.c.bk,O J f.c.slot,O J f.pl,O J f.cur,O J f.prev,O J f.slot,O J f.n,Y aK f.keys.length cK,.bool f.done,O J f.e])/\Below w.heap.size w w':=by
 have h':¬ ((f.keys.length:Int)<100):=by omega
 clear h
 go_enter Tryz.func211,Tryz.ntmps211
 go_wp2
 refine bodyPost_ret (v:=.agg #[O J f.c.kind,O J f.c.a,O J f.c.b,O J f.c.time,O J f.c.bk,O J f.c.slot,O J f.pl,O J f.cur,O J f.prev,O J f.slot,O J f.n,Y aK f.keys.length cK,.bool f.done,O J f.e]) (by simp[results,Tryz.results211,go_sem]) rfl ⟨rfl,?_⟩
 repeat (first|exact Below.refl _ _|refine Below.alloc ?_ (by simp <;> omega) _|refine Below.setCell ?_ (by simp <;> omega) _)
theorem a5c(f:Fr)(x y:Int)(aK:Option Addr)(cK:Nat)(w:Wq)(r:Am w aK cK f.keys)(h:f.keys.length<100) :
  Calls Pg 211 #[.agg #[O J f.c.kind,O J f.c.a,O J f.c.b,O J f.c.time,O J f.c.bk,O J f.c.slot,O J f.pl,O J f.cur,O J f.prev,O J f.slot,O J f.n,Y aK f.keys.length cK,.bool f.done,O J f.e],.agg #[O J x,O J y]] w fun e w'=>∃ a c,e=.returned (.agg #[O J ({ f with keys:=f.keys ++ [(x,y)] }).c.kind,O J ({ f with keys:=f.keys ++ [(x,y)] }).c.a,O J ({ f with keys:=f.keys ++ [(x,y)] }).c.b,O J ({ f with keys:=f.keys ++ [(x,y)] }).c.time,O J ({ f with keys:=f.keys ++ [(x,y)] }).c.bk,O J ({ f with keys:=f.keys ++ [(x,y)] }).c.slot,O J ({ f with keys:=f.keys ++ [(x,y)] }).pl,O J ({ f with keys:=f.keys ++ [(x,y)] }).cur,O J ({ f with keys:=f.keys ++ [(x,y)] }).prev,O J ({ f with keys:=f.keys ++ [(x,y)] }).slot,O J ({ f with keys:=f.keys ++ [(x,y)] }).n,Y a ({ f with keys:=f.keys ++ [(x,y)] }).keys.length c,.bool ({ f with keys:=f.keys ++ [(x,y)] }).done,O J ({ f with keys:=f.keys ++ [(x,y)] }).e])/\Dk w' w.heap.size a c (f.keys ++ [(x,y)])/\Below w.heap.size w w':=by
 have h':(f.keys.length:Int)<100:=by omega
 obtain⟨i0,hi,hz0,hz1,hz2⟩:=info_parts iK
 obtain⟨of,hof⟩:=frObj f aK cK
 obtain⟨ok,hok⟩:∃ o:Obj,o=.cells #[O J x,O J y] 30:=⟨_,rfl⟩
 obtain⟨oz,hoz⟩:∃ o:Obj,o=Ae:=⟨_,rfl⟩
 have HE:Hid (Nt w (((w.alloc of).alloc ok).alloc oz) f x y aK cK):=Nt.first f x y aK cK hof hok hoz
 have HN:Hid (aK=none->f.keys.length=0/\cK=0):=fun e=>⟨by have:=r.nil e;have:=r.le;omega,r.nil e⟩
 have HN2:Hid (aK=none->f.keys.length=0/\f.keys.length=0):=fun e=>⟨(HN.out e).1,(HN.out e).1⟩
 have HLe:Hid (f.keys.length<=cK):=r.le
 have HR:Hid (Am w aK cK f.keys):=r
 have HLt:Hid (f.keys.length<100):=h
 obtain⟨f0,f1,f2,f3,f4,f5,f6,f7,f8,f9,f10,f11,f12,f13,ff,fs⟩:=A8 HE.out.fb
 have k0:(((w.alloc of).alloc ok).alloc oz).cell? ⟨w.heap.size+1,0,none⟩=some (O J x):=by rw[cell_of_block HE.out.kb];rfl
 have k1:(((w.alloc of).alloc ok).alloc oz).cell? ⟨w.heap.size+1,1,none⟩=some (O J y):=by rw[cell_of_block HE.out.kb];rfl
 unfold Ae at hoz
 clear r h
 go_enter Tryz.func211,Tryz.ntmps211
 go_wp2_with fail
 rw[<- hof,<- hok,<- hoz]
 generalize ((w.alloc of).alloc ok).alloc oz=W0 at *
 subst hof hok hoz
 have HSr:Hid (∀ W:Wq,Below W0.heap.size W0 W->∀ b,aK=some b->∀ j u,(F6 f.keys)[j]?=some u->W.cell? (b.add j)=some u):=fun W hb=>((HR.out.below HE.out.bl).below hb).src
 have HEk:Hid ((F6 f.keys).length=f.keys.length*2):=Kw _
 have hlt:=HLt.out
 go_region_law (first
  | (refine step_append_grows rfl (.tmp 11) (.tmp 13) 45 rfl 30 i0 (.agg #[O J 0,O J 0]) 2 16 Tryz.underlying45 hi hz0 hz1 hz2 rfl (by first|decide|exact Ex.ne _ _ (by decide)) aK f.keys.length f.keys.length (F6 f.keys) (by simp[Act.eval]) HN2.out HEk.out (HSr.out _ (by exact(A7 _ _).drew)) ⟨W0.heap.size,0,none⟩ 1 1 [O J x,O J y] (by simp[Act.eval]) rfl (b2n _ _ _ _) (by intro u hu;simp at hu;rcases hu with rfl|rfl <;> rfl) (by omega) (by unfold maxLen;omega) (by omega) ?_;intro v w1 hown1 hgrow1;obtain⟨g,cap,rfl⟩:=ownsRow_form hown1 (by omega);have HB1:Hid (Below W0.heap.size W0 w1):=((A7 W0 (.cells #[O J x,O J y] 30)).drew).grown hgrow1 (by simp[World.drew]) (fun k h=>by cases h);have HO1:Hid (w1.ownsRow (W0.heap.size+1) 30 2 (Y (some ⟨g,0,none⟩) (f.keys.length+1) cap) (f.keys.length+1) (F6 f.keys ++ [O J x,O J y])):=ownsRow_le hown1 (by simp[World.drew]);clear hown1 hgrow1 f0 f1 f2 f3 f4 f5 f6 f7 f8 f9 f10 f11 f12 f13 ff fs;have HE1:Hid (Nt w w1 f x y aK cK):=HE.out.below HB1.out;obtain⟨f0,f1,f2,f3,f4,f5,f6,f7,f8,f9,f10,f11,f12,f13,ff,fs⟩:=A8 HE1.out.fb)
  | (refine Vw rfl 217 #[Y aK f.keys.length cK] (Y aK f.keys.length f.keys.length) (by simp[go_sem]) (a7b aK f.keys.length cK _ HLe.out HN.out) ?_))
 all_goals
  clear f0 f1 f2 f3 f4 f5 f6 f7 f8 f9 f10 f11 f12 f13 ff fs
  have hsz:=lt_of_block HE.out.zb
  have HK1:Hid (Dk w1 (w.heap.size+3) (some ⟨g,0,none⟩) cap (f.keys ++ [(x,y)])):=⟨by
   rw[show (f.keys ++ [(x,y)]).length=f.keys.length+1 by simp,show F6 (f.keys ++ [(x,y)])=F6 f.keys ++ [O J x,O J y] by simp[F6]]
   exact ownsRow_le HO1.out (by omega)⟩
  have HE2:Hid (Nt w _ { f with keys:=f.keys ++ [(x,y)] } x y (some ⟨g,0,none⟩) cap):=HE1.out.keys (f.keys ++ [(x,y)]) (f.keys.length+1) (by simp) (some ⟨g,0,none⟩) cap
  obtain⟨f0,f1,f2,f3,f4,f5,f6,f7,f8,f9,f10,f11,f12,f13,ff,fs⟩:=A8 HE2.out.fb
  obtain⟨g0,g1,g2,g3,g4,g5,g6,g7,g8,g9,g10,g11,g12,g13,gf,gs⟩:=A8 HE2.out.zb
  go_wp2
  refine bodyPost_ret (v:=.agg #[O J ({ f with keys:=f.keys ++ [(x,y)] }).c.kind,O J ({ f with keys:=f.keys ++ [(x,y)] }).c.a,O J ({ f with keys:=f.keys ++ [(x,y)] }).c.b,O J ({ f with keys:=f.keys ++ [(x,y)] }).c.time,O J ({ f with keys:=f.keys ++ [(x,y)] }).c.bk,O J ({ f with keys:=f.keys ++ [(x,y)] }).c.slot,O J ({ f with keys:=f.keys ++ [(x,y)] }).pl,O J ({ f with keys:=f.keys ++ [(x,y)] }).cur,O J ({ f with keys:=f.keys ++ [(x,y)] }).prev,O J ({ f with keys:=f.keys ++ [(x,y)] }).slot,O J ({ f with keys:=f.keys ++ [(x,y)] }).n,Y (some ⟨g,0,none⟩) ({ f with keys:=f.keys ++ [(x,y)] }).keys.length cap,.bool ({ f with keys:=f.keys ++ [(x,y)] }).done,O J ({ f with keys:=f.keys ++ [(x,y)] }).e]) (by simp[results,Tryz.results211,go_sem,g0,g1,g2,g3,g4,g5,g6,g7,g8,g9,g10,g11,g12,g13]) rfl ⟨some ⟨g,0,none⟩,cap,(by simp),HK1.out.b3h,?_⟩
  iterate 14 (refine Below.setCell ?_ (by dsimp only;omega) _)
  exact HE2.out.bl
end
end Go.Proofs.YthhgoenomehobaaGreat.mm
