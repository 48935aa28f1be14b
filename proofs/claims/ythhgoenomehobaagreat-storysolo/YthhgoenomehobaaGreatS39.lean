/- Parts. -/
import Derived.Test.YthhgoenomehobaaGreatS38
import Derived.Test.YthhgoenomehobaaGreatS37
import Derived.Test.YthhgoenomehobaaGreatS06
import Derived.Test.YthhgoenomehobaaGreatS02
namespace Go.Proofs.YthhgoenomehobaaGreat.mm
set_option maxRecDepth 100000
set_option linter.unusedVariables false
open Go.Value renaming int → O, slice → Y
open Go.IntKind renaming i64 → J
section
open Go.ChangeShapes Go.WideShapes Go.ChangeAt Go.RowKit Go.Joins Go.Deep Go.Maps
structure Na(w:World)(ao:Option Addr)(cap:Nat)(l:List Pk):Prop where
 le:l.length<=cap
 max:l.length*64<=140737488355328
 nil:ao=none->cap=0
 at_:l.length=0\/∃ b o,ao=some ⟨b,o,none⟩/\∀ i (h:i<l.length),w.rangeAt b (o+i*9) [O J (l[i]).Bc,.bool (l[i]).step,.bool (l[i]).tick,O J ((l[i]).c).kind,O J ((l[i]).c).a,O J ((l[i]).c).b,O J ((l[i]).c).time,O J ((l[i]).c).bk,O J ((l[i]).c).slot]
theorem Na.below{w w':World}{ao:Option Addr}{cap:Nat}{l:List Pk}(r:Na w ao cap l)(hb:Below w.heap.size w w'):Na w' ao cap l:=by
 refine⟨r.le,r.max,r.nil,?_⟩
 rcases r.at_ with h|⟨b,o,h,hc⟩
 ·exact .inl h
 ·refine .inr ⟨b,o,h,fun i hi=>?_⟩
  have h0:=hc i hi 0 _ rfl
  exact Fq (hc i hi) hb (cell_lt h0)
end
section
open Go.ChangeShapes Go.WideShapes Go.ChangeAt Go.RowKit Go.Joins Go.Deep Go.Maps
theorem pastf{w:World}{B:Nat}{v0 v1 v2 v3 v4 v5 v6 v7 v8 v9 v10 v11 v12:Value}{t:TypeId}(h:w.heap[B]?=some (.cells #[v0,v1,v2,v3,v4,v5,v6,v7,v8,v9,v10,v11,v12] t (0,0))) :
  w.cell? ⟨B,0,none⟩=some v0/\w.cell? ⟨B,1,none⟩=some v1/\w.cell? ⟨B,2,none⟩=some v2/\w.cell? ⟨B,3,none⟩=some v3/\w.cell? ⟨B,4,none⟩=some v4/\w.cell? ⟨B,5,none⟩=some v5/\w.cell? ⟨B,6,none⟩=some v6/\w.cell? ⟨B,7,none⟩=some v7/\w.cell? ⟨B,8,none⟩=some v8/\w.cell? ⟨B,9,none⟩=some v9/\w.cell? ⟨B,10,none⟩=some v10/\w.cell? ⟨B,11,none⟩=some v11/\w.cell? ⟨B,12,none⟩=some v12/\B<w.heap.size :=
 ⟨by rw[cell_of_block h];rfl,by rw[cell_of_block h];rfl,by rw[cell_of_block h];rfl,by rw[cell_of_block h];rfl,by rw[cell_of_block h];rfl,by rw[cell_of_block h];rfl,by rw[cell_of_block h];rfl,by rw[cell_of_block h];rfl,by rw[cell_of_block h];rfl,by rw[cell_of_block h];rfl,by rw[cell_of_block h];rfl,by rw[cell_of_block h];rfl,by rw[cell_of_block h];rfl,lt_of_block h⟩
def b7m(w:World)(f:Fr)(Bc fro too:Int)(e:Ending)(w':World):Prop :=
 ∃ a2 c2,e=.returned (.agg #[O J Bc,O J f.c.kind,O J f.c.a,O J f.c.b,O J f.c.time,O J f.c.bk,O J f.c.slot,O J fro,O J too,O J f.e,O J f.slot,O J f.n,Y a2 f.keys.length c2])/\Gg w' w.heap.size a2 c2 f.keys/\Below w.heap.size w w'
set_option maxHeartbeats 4000000 in
theorem b3i(f:Fr)(Bc fro too:Int)(aK:Option Addr)(cK:Nat)(w:World)(r:Ag w aK cK f.keys) :
  Calls Tryz.prog 81 #[.agg #[O J f.c.kind,O J f.c.a,O J f.c.b,O J f.c.time,O J f.c.bk,O J f.c.slot,O J f.pl,O J f.cur,O J f.prev,O J f.slot,O J f.n,Y aK f.keys.length cK,.bool f.done,O J f.e],O J Bc,O J fro,O J too] w (b7m w f Bc fro too):=by
 obtain⟨ox,hox⟩:∃ o:Obj,o=.cells #[O J f.c.kind,O J f.c.a,O J f.c.b,O J f.c.time,O J f.c.bk,O J f.c.slot,O J f.pl,O J f.cur,O J f.prev,O J f.slot,O J f.n,Y aK f.keys.length cK,.bool f.done,O J f.e] 47:=⟨_,rfl⟩
 obtain⟨oy,hoy⟩:∃ o:Obj,o=.cells #[O J 0,O J 0,O J 0,O J 0,O J 0,O J 0,O J 0,O J 0,O J 0,O J 0,O J 0,O J 0,Y none 0 0] 78:=⟨_,rfl⟩
 have b0:Below w.heap.size w ((w.alloc ox).alloc oy):=below_alloc2 w ox oy
 have HX0:Hid (((w.alloc ox).alloc oy).heap[w.heap.size]?=some ox):=by show _=_;rw[Below.heap_alloc _ _ _ (by simp),heap_alloc_new]
 have HY0:Hid (((w.alloc ox).alloc oy).heap[w.heap.size+1]?=some oy):=by
  have:=heap_alloc_new (w.alloc ox) oy
  rwa [show (w.alloc ox).heap.size=w.heap.size+1 by simp] at this
 have HK0:Hid (Ag ((w.alloc ox).alloc oy) aK cK f.keys):=r.below b0
 have z0:((w.alloc ox).alloc oy).heap.size=w.heap.size+2:=by simp
 clear r
 go_enter Tryz.func81,Tryz.ntmps81
 go_wp2_with fail
 rw[<- hox,<- hoy]
 generalize (w.alloc ox).alloc oy=W0 at *
 subst hox hoy
 obtain⟨f0,f1,f2,f3,f4,f5,f6,f7,f8,f9,f10,f11,f12,f13,ff,fs⟩:=Aa HX0.out
 have HS:Hid (∀ w':World,Below W0.heap.size W0 w'->w'.cell? ⟨w.heap.size,0,none⟩=some (O J f.c.kind)/\w'.cell? ⟨w.heap.size,1,none⟩=some (O J f.c.a)/\w'.cell? ⟨w.heap.size,2,none⟩=some (O J f.c.b)/\w'.cell? ⟨w.heap.size,3,none⟩=some (O J f.c.time)/\w'.cell? ⟨w.heap.size,4,none⟩=some (O J f.c.bk)/\w'.cell? ⟨w.heap.size,5,none⟩=some (O J f.c.slot)/\w'.cell? ⟨w.heap.size,6,none⟩=some (O J f.pl)/\w'.cell? ⟨w.heap.size,7,none⟩=some (O J f.cur)/\w'.cell? ⟨w.heap.size,8,none⟩=some (O J f.prev)/\w'.cell? ⟨w.heap.size,9,none⟩=some (O J f.slot)/\w'.cell? ⟨w.heap.size,10,none⟩=some (O J f.n)/\w'.cell? ⟨w.heap.size,11,none⟩=some (Y aK f.keys.length cK)/\w'.cell? ⟨w.heap.size,12,none⟩=some (.bool f.done)/\w'.cell? ⟨w.heap.size,13,none⟩=some (O J f.e)):=fun w' hb=>⟨((Eg hb).1 _ _ fs).trans f0,((Eg hb).1 _ _ fs).trans f1,((Eg hb).1 _ _ fs).trans f2,((Eg hb).1 _ _ fs).trans f3,((Eg hb).1 _ _ fs).trans f4,((Eg hb).1 _ _ fs).trans f5,((Eg hb).1 _ _ fs).trans f6,((Eg hb).1 _ _ fs).trans f7,((Eg hb).1 _ _ fs).trans f8,((Eg hb).1 _ _ fs).trans f9,((Eg hb).1 _ _ fs).trans f10,((Eg hb).1 _ _ fs).trans f11,((Eg hb).1 _ _ fs).trans f12,((Eg hb).1 _ _ fs).trans f13⟩
 have HS3:Hid (∀ w2:World,Below W0.heap.size W0 w2->∀ w':World,(∀ k,k≠w.heap.size+1->w'.heap[k]?=w2.heap[k]?)->w'.cell? ⟨w.heap.size,0,none⟩=some (O J f.c.kind)/\w'.cell? ⟨w.heap.size,1,none⟩=some (O J f.c.a)/\w'.cell? ⟨w.heap.size,2,none⟩=some (O J f.c.b)/\w'.cell? ⟨w.heap.size,3,none⟩=some (O J f.c.time)/\w'.cell? ⟨w.heap.size,4,none⟩=some (O J f.c.bk)/\w'.cell? ⟨w.heap.size,5,none⟩=some (O J f.c.slot)/\w'.cell? ⟨w.heap.size,6,none⟩=some (O J f.pl)/\w'.cell? ⟨w.heap.size,7,none⟩=some (O J f.cur)/\w'.cell? ⟨w.heap.size,8,none⟩=some (O J f.prev)/\w'.cell? ⟨w.heap.size,9,none⟩=some (O J f.slot)/\w'.cell? ⟨w.heap.size,10,none⟩=some (O J f.n)/\w'.cell? ⟨w.heap.size,11,none⟩=some (Y aK f.keys.length cK)/\w'.cell? ⟨w.heap.size,12,none⟩=some (.bool f.done)/\w'.cell? ⟨w.heap.size,13,none⟩=some (O J f.e)):=fun w2 hb w' hk=>by
  have h:=HS.out w2 hb
  exact⟨(World.cell?_of_block (hk w.heap.size (by omega))).trans h.1,(World.cell?_of_block (hk w.heap.size (by omega))).trans h.2.1,(World.cell?_of_block (hk w.heap.size (by omega))).trans h.2.2.1,(World.cell?_of_block (hk w.heap.size (by omega))).trans h.2.2.2.1,(World.cell?_of_block (hk w.heap.size (by omega))).trans h.2.2.2.2.1,(World.cell?_of_block (hk w.heap.size (by omega))).trans h.2.2.2.2.2.1,(World.cell?_of_block (hk w.heap.size (by omega))).trans h.2.2.2.2.2.2.1,(World.cell?_of_block (hk w.heap.size (by omega))).trans h.2.2.2.2.2.2.2.1,(World.cell?_of_block (hk w.heap.size (by omega))).trans h.2.2.2.2.2.2.2.2.1,(World.cell?_of_block (hk w.heap.size (by omega))).trans h.2.2.2.2.2.2.2.2.2.1,(World.cell?_of_block (hk w.heap.size (by omega))).trans h.2.2.2.2.2.2.2.2.2.2.1,(World.cell?_of_block (hk w.heap.size (by omega))).trans h.2.2.2.2.2.2.2.2.2.2.2.1,(World.cell?_of_block (hk w.heap.size (by omega))).trans h.2.2.2.2.2.2.2.2.2.2.2.2.1,(World.cell?_of_block (hk w.heap.size (by omega))).trans h.2.2.2.2.2.2.2.2.2.2.2.2.2⟩
 have HL:Hid (∀ W:World,Below W0.heap.size W0 W->Calls Tryz.prog 104 #[Y aK f.keys.length cK] W fun e w'=>∃ a c,e=.returned (Y a f.keys.length c)/\Gg w' W.heap.size a c f.keys/\Below W.heap.size W w'):=fun W hb=>Ub aK cK f.keys W (HK0.out.below hb)
 have hz:W0.heap.size=w.heap.size+2:=z0
 have Hz:Hid (W0.heap.size=w.heap.size+2):=z0
 clear z0 hz ff
 go_region_held3 (fun w'=>w'.cell? ⟨w.heap.size,0,none⟩=some (O J f.c.kind)/\w'.cell? ⟨w.heap.size,1,none⟩=some (O J f.c.a)/\w'.cell? ⟨w.heap.size,2,none⟩=some (O J f.c.b)/\w'.cell? ⟨w.heap.size,3,none⟩=some (O J f.c.time)/\w'.cell? ⟨w.heap.size,4,none⟩=some (O J f.c.bk)/\w'.cell? ⟨w.heap.size,5,none⟩=some (O J f.c.slot)/\w'.cell? ⟨w.heap.size,6,none⟩=some (O J f.pl)/\w'.cell? ⟨w.heap.size,7,none⟩=some (O J f.cur)/\w'.cell? ⟨w.heap.size,8,none⟩=some (O J f.prev)/\w'.cell? ⟨w.heap.size,9,none⟩=some (O J f.slot)/\w'.cell? ⟨w.heap.size,10,none⟩=some (O J f.n)/\w'.cell? ⟨w.heap.size,11,none⟩=some (Y aK f.keys.length cK)/\w'.cell? ⟨w.heap.size,12,none⟩=some (.bool f.done)/\w'.cell? ⟨w.heap.size,13,none⟩=some (O J f.e)) (first|(refine HS4.out _ (fun k hk=>?_);iterate 13 rw[Below.heap_setCell _ _ _ _ (by dsimp only;exact hk)])|exact HS.out _ HB2.out|exact HS.out _ ⟨rfl,rfl,rfl,Nat.le_refl _,fun _ _=>rfl⟩) (first|(go_at_call 104;refine(HL.out _ (by exact⟨rfl,rfl,rfl,Nat.le_refl _,fun _ _=>rfl⟩)).mono ?_;rintro e w2 ⟨a2,c2,rfl,ho2,hb2⟩;have HO2:Hid (Gg w2 W0.heap.size a2 c2 f.keys):=ho2;have HB2:Hid (Below W0.heap.size W0 w2):=⟨hb2.os,hb2.tape,hb2.output,hb2.size,hb2.block⟩;have HY2:Hid (w2.heap[w.heap.size+1]?=_):=(HB2.out.block _ (lt_of_block HY0.out)).trans HY0.out;obtain⟨y0,y1,y2,y3,y4,y5,y6,y7,y8,y9,y10,y11,y12,ys⟩:=pastf HY2.out;have hfz:=fun j=>unfrozen_of_block HY2.out j;have HS4:Hid (∀ w':World,(∀ k,k≠w.heap.size+1->w'.heap[k]?=w2.heap[k]?)->w'.cell? ⟨w.heap.size,0,none⟩=some (O J f.c.kind)/\w'.cell? ⟨w.heap.size,1,none⟩=some (O J f.c.a)/\w'.cell? ⟨w.heap.size,2,none⟩=some (O J f.c.b)/\w'.cell? ⟨w.heap.size,3,none⟩=some (O J f.c.time)/\w'.cell? ⟨w.heap.size,4,none⟩=some (O J f.c.bk)/\w'.cell? ⟨w.heap.size,5,none⟩=some (O J f.c.slot)/\w'.cell? ⟨w.heap.size,6,none⟩=some (O J f.pl)/\w'.cell? ⟨w.heap.size,7,none⟩=some (O J f.cur)/\w'.cell? ⟨w.heap.size,8,none⟩=some (O J f.prev)/\w'.cell? ⟨w.heap.size,9,none⟩=some (O J f.slot)/\w'.cell? ⟨w.heap.size,10,none⟩=some (O J f.n)/\w'.cell? ⟨w.heap.size,11,none⟩=some (Y aK f.keys.length cK)/\w'.cell? ⟨w.heap.size,12,none⟩=some (.bool f.done)/\w'.cell? ⟨w.heap.size,13,none⟩=some (O J f.e)):=HS3.out w2 HB2.out;clear ho2 hb2))
 all_goals
  have HB4:Hid ((w2.setCells (w.heap.size+1) 0 [O J Bc,O J f.c.kind,O J f.c.a,O J f.c.b,O J f.c.time,O J f.c.bk,O J f.c.slot,O J fro,O J too,O J f.e,O J f.slot,O J f.n,Y a2 f.keys.length c2]).heap[w.heap.size+1]?=some (.cells #[O J Bc,O J f.c.kind,O J f.c.a,O J f.c.b,O J f.c.time,O J f.c.bk,O J f.c.slot,O J fro,O J too,O J f.e,O J f.slot,O J f.n,Y a2 f.keys.length c2] 78 (0,0))):=D5 HY2.out rfl
  have HK4:Hid (Gg (w2.setCells (w.heap.size+1) 0 [O J Bc,O J f.c.kind,O J f.c.a,O J f.c.b,O J f.c.time,O J f.c.bk,O J f.c.slot,O J fro,O J too,O J f.e,O J f.slot,O J f.n,Y a2 f.keys.length c2]) w.heap.size a2 c2 f.keys):=(HO2.out.same fun ad e=>Ae (by have:=(HO2.out.lt ad e).1;have:=Hz.out;omega) _ _ _).le (by have:=Hz.out;omega)
  have b4:Below w.heap.size w (w2.setCells (w.heap.size+1) 0 [O J Bc,O J f.c.kind,O J f.c.a,O J f.c.b,O J f.c.time,O J f.c.bk,O J f.c.slot,O J fro,O J too,O J f.e,O J f.slot,O J f.n,Y a2 f.keys.length c2]):=Bq (b0.trans (HB2.out.mono b0.size)) (by omega)
  simp only[World.setCells,Nat.zero_add,Nat.reduceAdd] at HB4 HK4 b4
  clear y0 y1 y2 y3 y4 y5 y6 y7 y8 y9 y10 y11 y12 ys hfz f0 f1 f2 f3 f4 f5 f6 f7 f8 f9 f10 f11 f12 f13 fs HS4 HS3 HS HL HY2 HO2 HB2
  go_wp2
  exact bodyPost_ret (results_cell_row Tryz.results81 _ _ (w.heap.size+1) 78 _ (0,0) _ rfl HB4.out Tryz.underlying78 rfl (by kernel_rfl)) rfl ⟨a2,c2,rfl,HK4.out,b4⟩
end
section
open Go.ChangeShapes Go.WideShapes Go.ChangeAt Go.RowKit Go.Joins Go.Deep Go.Maps
theorem Sm{w w':World}{a:Option Addr}{c lo:Nat}{l:List Int}(r:Ea w a c l)(hi:∀ ad,a=some ad->lo<=ad.block)(h:∀ k,lo<=k->k<w.heap.size->w'.heap[k]?=w.heap[k]?):Ea w' a c l:=by
 refine⟨r.le,r.max,r.nil,?_⟩
 rcases r.at_ with h0|⟨b,o,e,hc⟩
 ·exact .inl h0
 ·refine .inr ⟨b,o,e,fun i hn=>?_⟩
  have hb:=h b (hi _ e) (cell_lt (hc i hn))
  rw[World.cell?_of_block (a:=⟨b,o+i,none⟩) hb]
  exact hc i hn
theorem b2r{w w':World}{a:Option Addr}{c lo:Nat}{l:List Sl}(r:Jy w a c l)(hi:∀ ad,a=some ad->lo<=ad.block)(h:∀ k,lo<=k->k<w.heap.size->w'.heap[k]?=w.heap[k]?):Jy w' a c l:=by
 refine⟨r.le,r.max,r.nil,?_⟩
 rcases r.at_ with h0|⟨b,o,e,hc⟩
 ·exact .inl h0
 ·refine .inr ⟨b,o,e,fun i hn=>?_⟩
  have hb:=h b (hi _ e) (cell_lt (hc i hn).1)
  obtain⟨c0,c1,c2,c3,c4,c5⟩:=hc i hn
  exact⟨(World.cell?_of_block (a:=⟨b,o+i*6,none⟩) hb).trans c0,(World.cell?_of_block (a:=⟨b,o+i*6+1,none⟩) hb).trans c1,(World.cell?_of_block (a:=⟨b,o+i*6+2,none⟩) hb).trans c2,(World.cell?_of_block (a:=⟨b,o+i*6+3,none⟩) hb).trans c3,(World.cell?_of_block (a:=⟨b,o+i*6+4,none⟩) hb).trans c4,(World.cell?_of_block (a:=⟨b,o+i*6+5,none⟩) hb).trans c5⟩
theorem Gh.win{lo:Nat}{w w':World}{v:Value}{W:Wd}(h:Gh lo w v W)(hk:∀ k,lo<=k->k<w.heap.size->w'.heap[k]?=w.heap[k]?):Gh lo w' v W:=by
 obtain⟨aS,aH,aF,aL,cS,cH,cF,cL,aT,cT,l,e,A,hi,el,r,th⟩:=h
 refine⟨aS,aH,aF,aL,cS,cH,cF,cL,aT,cT,l,e,⟨b2r A.s hi.s hk,Sm A.h hi.h hk,Sm A.f hi.f hk,Sm A.l hi.l hk⟩,hi,el,⟨r.le,r.max,r.nil,?_,fun p hp=>Eu (r.keys p hp) fun _ ad e hl=>hk _ (th.keys p hp ad e) hl,fun p hp=>Sm (r.held p hp) (th.held p hp) hk⟩,th⟩
 rcases r.at_ with h0|⟨b,o,e,hc⟩
 ·exact .inl h0
 ·refine .inr ⟨b,o,e,fun i hi q hq=>?_⟩
  obtain⟨v,hv⟩:=Wh l[i].1 l[i].2 hq
  exact(World.cell?_of_block (a:=⟨b,o+i*16+q,none⟩) (hk b (th.row _ e) (cell_lt ((hc i hi q hq).trans hv)))).trans (hc i hi q hq)
def Pst.enc(p:Pst)(a:Option Addr)(c:Nat):List Value :=
 [O J p.Bc,O J p.c.kind,O J p.c.a,O J p.c.b,O J p.c.time,O J p.c.bk,O J p.c.slot,O J p.fro,O J p.to,O J p.e,O J p.slot,O J p.n,Y a p.keys.length c]
def a6l(l:List (Pst × Option Addr × Nat)):List Value:=l.flatMap fun q=>q.1.enc q.2.1 q.2.2
def Out(a b:Nat)(k:Nat):Prop:=¬ (a<=k/\k<b)
structure Cs(lo a b:Nat)(w:World)(B1 B2 B3 B4 g:Nat)(v1 v2 v4:Value)(said:List Int)(pl:List (Pst × Option Addr × Nat))(beg:List Nat)(Z:List (Nat × Array Value)):Prop where
 s:w.heap[B1]?=some (.cells #[v1] 68 (0,0))
 so:w.ownsRow lo 36 1 v1 said.length (encI said)
 sx:∀ k,v1.ownBlock=some k->Out a b k
 f:w.heap[B3]?=some (.cells #[Y (some ⟨g,0,none⟩) beg.length beg.length] 23 (0,0))
 fo:w.heap[g]?=some (.cells (encI (beg.map Int.ofNat)).toArray 3 (0,0))
 fx:Out a b g
 p:w.heap[B4]?=some (.cells #[v4] 69 (0,0))
 po:w.ownsRow lo 78 13 v4 pl.length (a6l pl)
 px:∀ k,v4.ownBlock=some k->Out a b k
 pk:∀ q∈pl,Gg w lo q.2.1 q.2.2 q.1.keys/\∀ ad,q.2.1=some ad->Out a b ad.block
 o1:lo<=B1/\Out a b B1
 o3:lo<=B3/\Out a b B3
 o4:lo<=B4/\Out a b B4
 og:lo<=g
 x:w.heap[B2]?=some (.cells #[v2] 54 (0,0))
 ox:lo<=B2/\Out a b B2
 z:∀ q∈Z,w.heap[q.1]?=some (.cells q.2 28 (0,0))
section
variable {lo a b:Nat} {w w':World} {B1 B2 B3 B4 g:Nat} {v1 v2 v4:Value} {said:List Int} {pl:List (Pst × Option Addr × Nat)} {beg:List Nat} {Z:List (Nat × Array Value)}
theorem Cs.below(h:Cs lo a b w B1 B2 B3 B4 g v1 v2 v4 said pl beg Z)(hb:Below w.heap.size w w'):Cs lo a b w' B1 B2 B3 B4 g v1 v2 v4 said pl beg Z :=
 ⟨(hb.block _ (lt_of_block h.s)).trans h.s,Dx h.so fun k hk=>hb.block _ (h.so.lt k hk).2,h.sx,(hb.block _ (lt_of_block h.f)).trans h.f,(hb.block _ (lt_of_block h.fo)).trans h.fo,h.fx,(hb.block _ (lt_of_block h.p)).trans h.p,Dx h.po fun k hk=>hb.block _ (h.po.lt k hk).2,h.px,fun q hq=>⟨(h.pk q hq).1.below hb,(h.pk q hq).2⟩,h.o1,h.o3,h.o4,h.og,(hb.block _ (lt_of_block h.x)).trans h.x,h.ox,fun q hq=>(hb.block _ (lt_of_block (h.z q hq))).trans (h.z q hq)⟩
theorem Cs.turn(h:Cs lo a b w B1 B2 B3 B4 g v1 v2 v4 said pl beg Z)(b':Nat):Cs lo w.heap.size b' w B1 B2 B3 B4 g v1 v2 v4 said pl beg Z :=
 have hz:∀ k,k<w.heap.size->Out w.heap.size b' k:=fun k hk hx=>by have:=hx.1;omega
 ⟨h.s,h.so,fun k hk=>hz k (h.so.lt k hk).2,h.f,h.fo,hz _ (lt_of_block h.fo),h.p,h.po,fun k hk=>hz k (h.po.lt k hk).2,fun q hq=>⟨(h.pk q hq).1,fun ad e=>hz _ ((h.pk q hq).1.lt ad e).2⟩,⟨h.o1.1,hz _ (lt_of_block h.s)⟩,⟨h.o3.1,hz _ (lt_of_block h.f)⟩,⟨h.o4.1,hz _ (lt_of_block h.p)⟩,h.og,h.x,⟨h.ox.1,hz _ (lt_of_block h.x)⟩,h.z⟩
theorem Cs.say(h:Cs lo a b w B1 B2 B3 B4 g v1 v2 v4 said pl beg Z)(hz:b<=w.heap.size){ob:Obj}{w1:World}{v':Value}{e:Int}(hg:(w.alloc ob).grownBy w1 v1.ownBlock)(ho:w1.ownsRow lo 36 1 v' (said.length+1) (encI said ++ [O J e]))(hl:v'.ownBlock=v1.ownBlock\/v'.ownBlock=some (w.alloc ob).heap.size) :
  Cs lo a b (w1.setCell ⟨B1,0,none⟩ v') B1 B2 B3 B4 g v' v2 v4 (said ++ [e]) pl beg Z/\∀ k,a<=k->k<b->(w1.setCell ⟨B1,0,none⟩ v').heap[k]?=w.heap[k]?:=by
 have hk1:∀ k,k<w.heap.size->v1.ownBlock≠some k->w1.heap[k]?=w.heap[k]?:=fun k hk hn=>by
  rw[hg.block k (by simp;omega) (fun e=>hn e.symm),Below.heap_alloc _ _ _ hk]
 have hk:∀ k,k<w.heap.size->v1.ownBlock≠some k->k≠B1->(w1.setCell ⟨B1,0,none⟩ v').heap[k]?=w.heap[k]?:=fun k hk hn hB=>by
  rw[Below.heap_setCell _ _ _ _ (by dsimp only;exact hB)]
  exact hk1 k hk hn
 have s1:w1.heap[B1]?=some (.cells #[v1] 68 (0,0)):=(hk1 B1 (lt_of_block h.s) (own_ne h.so h.s (by decide))).trans h.s
 have nb:∀ {X:Nat} {cs:Array Value} {t:TypeId},w.heap[X]?=some (.cells cs t (0,0))->t≠36->t≠68->(w1.setCell ⟨B1,0,none⟩ v').heap[X]?=some (.cells cs t (0,0)):=fun hX n1 n2=>by
  refine(hk _ (lt_of_block hX) (own_ne h.so hX (Ne.symm n1)) ?_).trans hX
  rintro rfl
  rw[h.s] at hX
  injection hX with hX
  injection hX with _ hX
  exact n2 hX.symm
 have nr:∀ {lo' size n:Nat} {t:TypeId} {u:Value} {xs:List Value},w.ownsRow lo' t size u n xs->t≠36->t≠68->(w1.setCell ⟨B1,0,none⟩ v').ownsRow lo' t size u n xs:=fun hu n1 n2=>by
  refine Dx hu fun k hu'=>hk k (hu.lt k hu').2 (fun hv=>I5 h.so hu (Ne.symm n1) k hv hu') ?_
  rintro rfl
  exact own_ne hu h.s n2 hu'
 refine⟨⟨?_,?_,?_,nb h.f (by decide) (by decide),nb h.fo (by decide) (by decide),h.fx,nb h.p (by decide) (by decide),nr h.po (by decide) (by decide),h.px,fun q hq=>⟨⟨nr (h.pk q hq).1.own (by decide) (by decide)⟩,(h.pk q hq).2⟩,h.o1,h.o3,h.o4,h.og,nb h.x (by decide) (by decide),h.ox,fun q hq=>nb (h.z q hq) (by decide) (by decide)⟩,?_⟩
 ·have:=block_setCell (i:=0) s1 v'
  rw[this];rfl
 ·have:=Ny (j:=0) (x:=v') ho (own_ne ho s1 (by decide))
  rwa [show encI said ++ [O J e]=encI (said ++ [e]) by simp[encI],show said.length+1=(said ++ [e]).length by simp] at this
 ·intro k hk'
  rcases hl with hl|hl
  ·exact h.sx k (hl ▸ hk')
  ·rw[hl] at hk'
   injection hk' with hk'
   intro hx
   have:=hx.2
   simp at hk'
   omega
 ·intro k h1 h2
  exact hk k (by omega) (fun e=>h.sx k e ⟨h1,h2⟩) (fun e=>h.o1.2 (e ▸ ⟨h1,h2⟩))
theorem Cs.start(h:Cs lo a b w B1 B2 B3 B4 g v1 v2 v4 said pl beg Z)(t n:Nat)(ht:t<beg.length) :
  Cs lo a b (w.setCell ⟨g,t,none⟩ (O J n)) B1 B2 B3 B4 g v1 v2 v4 said pl (beg.set t n) Z/\∀ k,a<=k->k<b->(w.setCell ⟨g,t,none⟩ (O J n)).heap[k]?=w.heap[k]?:=by
 have hk:∀ k,k≠g->(w.setCell ⟨g,t,none⟩ (O J n)).heap[k]?=w.heap[k]?:=fun k hB=>Below.heap_setCell _ _ _ _ (by dsimp only;exact hB)
 have nb:∀ {X:Nat} {cs:Array Value} {t':TypeId},w.heap[X]?=some (.cells cs t' (0,0))->t'≠3->(w.setCell ⟨g,t,none⟩ (O J n)).heap[X]?=some (.cells cs t' (0,0)):=fun hX n2=>by
  refine(hk _ ?_).trans hX
  rintro rfl
  rw[h.fo] at hX
  injection hX with hX
  injection hX with _ hX
  exact n2 hX.symm
 have nr:∀ {lo' size n':Nat} {t':TypeId} {u:Value} {xs:List Value},w.ownsRow lo' t' size u n' xs->t'≠3->(w.setCell ⟨g,t,none⟩ (O J n)).ownsRow lo' t' size u n' xs:=fun hu n2=>by
  refine Dx hu fun k hu'=>hk k ?_
  rintro rfl
  exact own_ne hu h.fo n2 hu'
 refine⟨⟨nb h.s (by decide),nr h.so (by decide),h.sx,?_,?_,h.fx,nb h.p (by decide),nr h.po (by decide),h.px,fun q hq=>⟨⟨nr (h.pk q hq).1.own (by decide)⟩,(h.pk q hq).2⟩,h.o1,h.o3,h.o4,h.og,nb h.x (by decide),h.ox,fun q hq=>nb (h.z q hq) (by decide)⟩,fun k h1 h2=>hk k (fun e=>h.fx (e ▸ ⟨h1,h2⟩))⟩
 ·rw[List.length_set];exact nb h.f (by decide)
 ·rw[block_setCell (i:=t) h.fo]
  congr 1
  congr 1
  apply Array.ext'
  simp[encI,List.map_set]
end
end
section
open Go.ChangeShapes Go.WideShapes Go.ChangeAt Go.RowKit Go.Joins Go.Deep Go.Maps
def WIn(a b:Nat)(w:World)(v:Value)(W:Wd):Prop:=∀ w',(∀ k,a<=k->k<b->w'.heap[k]?=w.heap[k]?)->Gh a w' v W
theorem Gh.wIn{a:Nat}{w:World}{v:Value}{W:Wd}(h:Gh a w v W):WIn a w.heap.size w v W:=fun w' hk=>h.win hk
theorem WIn.same{a b:Nat}{w w':World}{v:Value}{W:Wd}(h:WIn a b w v W)(hk:∀ k,a<=k->k<b->w'.heap[k]?=w.heap[k]?):WIn a b w' v W:=fun w2 h2=>h w2 fun k h3 h4=>(h2 k h3 h4).trans (hk k h3 h4)
def Ux(x:Pk)(e:Int)(i:Nat)(beg:List Nat):List Nat:=if e≠0\/x.tick=true then beg else if x.step then beg else beg.set x.Bc.toNat i
def Uy(x:Pk)(e:Int)(i:Nat)(beg:List Nat)(W:Wd)(past:List Pst):List Pst :=
 if e≠0\/x.tick=true then past else if x.step then (if (W.ts.getD x.Bc.toNat idle).busy then past else past ++ [b1s i x (beg.getD x.Bc.toNat 0) (W.ts.getD x.Bc.toNat idle)]) else past
def a5p(lo a b:Nat)(w:World)(B1 B2 B3 B4 g:Nat)(v2:Value)(said:List Int)(past:List Pst)(beg:List Nat)(Z:List (Nat × Array Value))(e:Ending)(w':World):Prop :=
 ∃ v1 v4 pl,e=.returned (.tuple #[])/\Cs lo a b w' B1 B2 B3 B4 g v1 v2 v4 said pl beg Z/\pl.map (·.1)=past/\Below lo w w'/\∀ k,a<=k->k<b->w'.heap[k]?=w.heap[k]?
theorem iE:(Tryz.prog.info? 36).map (fun i=>(i.zero,i.size,i.bytes))=some (some (O J 0),1,8):=by kernel_rfl
theorem iP:(Tryz.prog.info? 78).map (fun i=>(i.zero,i.size,i.bytes))=some (some (.agg #[O J 0,O J 0,O J 0,O J 0,O J 0,O J 0,O J 0,O J 0,O J 0,O J 0,O J 0,O J 0,Y none 0 0]),13,120):=by kernel_rfl
theorem Cs.fat{lo a b:Nat}{w:World}{B1 B2 B3 B4 g:Nat}{v1 v2 v4:Value}{said:List Int}{pl:List (Pst × Option Addr × Nat)}{beg:List Nat}{Z:List (Nat × Array Value)}(h:Cs lo a b w B1 B2 B3 B4 g v1 v2 v4 said pl beg Z){t:Nat}(ht:t<beg.length):w.cell? ⟨g,t,none⟩=some (O J (beg.getD t 0:Nat)):=by
 rw[cell_of_block h.fo]
 simp[encI,ht]
set_option maxHeartbeats 4000000 in
theorem b5q(lo a b:Nat)(w:World)(B1 B2 B3 B4 g:Nat)(aP:Option Addr)(cP:Nat)(l:List Pk)(v1 v4:Value)(said:List Int)(pl:List (Pst × Option Addr × Nat))(beg:List Nat)(Z:List (Nat × Array Value))(W:Wd)(v:Value)(i:Nat)(E:Int)
  (h:Cs lo a b w B1 B2 B3 B4 g v1 (Y aP l.length cP) v4 said pl beg Z) (hz:b<=w.heap.size) (hr:Na w aP cP l) (hrl:∀ ad,aP=some ad->ad.block<lo) (hi:i<l.length) (hs:said.length<=300) (hps:pl.length<=300) (hW:WIn a b w v W) (hT:E≠0) :
  Calls Tryz.prog 80 #[O J i,v,O J E,.pointer (some ⟨B1,0,none⟩),.pointer (some ⟨B2,0,none⟩),.pointer (some ⟨B3,0,none⟩),.pointer (some ⟨B4,0,none⟩)] w (a5p lo a b w B1 B2 B3 B4 g (Y aP l.length cP) (said ++ [E]) (pl.map (·.1)) beg Z):=by
 obtain⟨aS,aH,aF,aL,cS,cH,cF,cL,aT,cT,lt,rfl,-⟩:=hW w (fun _ _ _=>rfl)
 have b0:Below w.heap.size w (w.alloc (.cells #[Y aS W.m.slots.length cS,Y aH W.m.heads.length cH,Y aF W.m.free.length cF,Y aL W.m.locks.length cL,O J W.m.now,Y aT W.ts.length cT] 28)):=Ad _ _
 have HC0:Hid (Cs lo a b (w.alloc (.cells #[Y aS W.m.slots.length cS,Y aH W.m.heads.length cH,Y aF W.m.free.length cF,Y aL W.m.locks.length cL,O J W.m.now,Y aT W.ts.length cT] 28)) B1 B2 B3 B4 g v1 (Y aP l.length cP) v4 said pl beg Z):=h.below b0
 have HY0:Hid ((w.alloc (.cells #[Y aS W.m.slots.length cS,Y aH W.m.heads.length cH,Y aF W.m.free.length cF,Y aL W.m.locks.length cL,O J W.m.now,Y aT W.ts.length cT] 28)).heap[w.heap.size]?=some (.cells #[Y aS W.m.slots.length cS,Y aH W.m.heads.length cH,Y aF W.m.free.length cF,Y aL W.m.locks.length cL,O J W.m.now,Y aT W.ts.length cT] 28 (0,0))):=heap_alloc_new _ _
 have Hlz:Hid (lo<=w.heap.size):=by have:=h.o1.1;have:=lt_of_block h.s;show _<=_;omega
 have HW0:Hid (WIn a b w (.agg #[Y aS W.m.slots.length cS,Y aH W.m.heads.length cH,Y aF W.m.free.length cF,Y aL W.m.locks.length cL,O J W.m.now,Y aT W.ts.length cT]) W):=hW
 have Hz:Hid (b<=w.heap.size):=hz
 rcases hr.at_ with hn|⟨bP,oP,rfl,hx⟩
 ·omega
 have hbl:bP<lo:=hrl _ rfl
 have Hrx:Hid (w.rangeAt bP (oP+i*9) [O J (l[i]).Bc,.bool (l[i]).step,.bool (l[i]).tick,O J ((l[i]).c).kind,O J ((l[i]).c).a,O J ((l[i]).c).b,O J ((l[i]).c).time,O J ((l[i]).c).bk,O J ((l[i]).c).slot]):=hx i hi
 have hmax:=hr.max
 have hle:=hr.le
 obtain⟨x,hxe⟩:∃ x,x=l[i]:=⟨_,rfl⟩
 have Hxe:Hid (x=l[i]):=hxe
 rw[<- hxe] at Hrx
 have HCell:Hid (∀ j u,[Value.int .i64 E][j]?=some u->(((w.alloc (.cells #[Y aS W.m.slots.length cS,Y aH W.m.heads.length cH,Y aF W.m.free.length cF,Y aL W.m.locks.length cL,O J W.m.now,Y aT W.ts.length cT] 28))).alloc (.cells #[O J E] 36)).cell? ((⟨w.heap.size+1,0,none⟩:Addr).add j)=some u):=fun j u hu=>by
  have h1:=cell_one_new (w.alloc (.cells #[Y aS W.m.slots.length cS,Y aH W.m.heads.length cH,Y aF W.m.free.length cF,Y aL W.m.locks.length cL,O J W.m.now,Y aT W.ts.length cT] 28)) (O J E) 36 j u hu
  rwa [show (w.alloc (.cells #[Y aS W.m.slots.length cS,Y aH W.m.heads.length cH,Y aF W.m.free.length cF,Y aL W.m.locks.length cL,O J W.m.now,Y aT W.ts.length cT] 28)).heap.size=w.heap.size+1 by simp] at h1
 obtain⟨i0,hi0,hq0,hq1,hq2⟩:=info_parts iE
 obtain⟨a1,k1,rfl⟩:=D9 HC0.out.so
 have HO:Hid ((w.alloc (.cells #[Y aS W.m.slots.length cS,Y aH W.m.heads.length cH,Y aF W.m.free.length cF,Y aL W.m.locks.length cL,O J W.m.now,Y aT W.ts.length cT] 28)).ownsRow lo 36 1 (Y a1 said.length k1) said.length (encI said)):=HC0.out.so
 have HBw:Hid (∀ (w2:World) (o:Obj) (v':Value),((w.alloc (.cells #[Y aS W.m.slots.length cS,Y aH W.m.heads.length cH,Y aF W.m.free.length cF,Y aL W.m.locks.length cL,O J W.m.now,Y aT W.ts.length cT] 28)).alloc o).grownBy w2 (Value.slice a1 said.length k1).ownBlock->Below lo w (w2.setCell ⟨B1,0,none⟩ v')):=fun w2 o v' hg=>Iz ((Below.mono (Ad w _) Hlz.out)) hg (fun k hk=>(HO.out.lt k hk).1) (by have:=Hlz.out;simp;omega) HC0.out.o1.1
 obtain⟨c1,f1,l1⟩:=Aq HC0.out.s
 clear h hW hr b0 hrl hx hz hxe
 go_enter Tryz.func80,Tryz.ntmps80
 go_wp2_with (first|(at_builtin;refine wpList_append_own_at _ rfl (.tmp 12) (.tmp 14) 68 rfl lo 36 i0 (O J 0) 1 8 Tryz.underlying68 hi0 hq0 hq1 hq2 rfl (by decide) _ _ _ rfl (HO.out.alloc _) ⟨w.heap.size+1,0,none⟩ 1 1 [O J E] rfl rfl HCell.out (by intro u hu;simp at hu;subst hu;rfl) (by unfold maxLen;omega) (by omega) (by have:=Hlz.out;simp;omega) ?_;intro v2 w2 ho2 hg2 _ hloc2;obtain⟨g2,cap2,rfl⟩:=ownsRow_form ho2 (by omega);have HC1:Hid _:=Cs.say HC0.out (by have:=Hz.out;simp;omega) hg2 ho2 hloc2;obtain⟨d1,e1,lB2⟩:=Aq (F6 HC0.out.s hg2 (own_ne HO.out HC0.out.s (by decide)));have HB1:Hid _:=HBw.out _ _ (Y (some ⟨g2,0,none⟩) (said.length+1) cap2) hg2;obtain⟨d2,e2,lB3⟩:=Aq HC1.out.1.x;have Hrx1:Hid _:=Fq Hrx.out HB1.out hbl;have HC2:=fun o:Obj=>HC1.out.1.below (Ad _ o);have d3:=fun o:Obj=>(Aq (HC2 o).f).1;have e3:=fun o:Obj=>(Aq (HC2 o).f).2.1;have d4:=fun o:Obj=>(Aq (HC2 o).p).1;have e4:=fun o:Obj=>(Aq (HC2 o).p).2.1; clear HC2 c1 f1 l1 ho2 hg2 hloc2 HC0 HO HBw)|refine a2e rfl _ rfl rfl Hrx1.out ?_)
 refine bodyPost_ret (results_none rfl _ _ _) rfl ?_
 have hq:∀ o:Obj,Below lo w (World.alloc _ o):=fun o=>HB1.out.alloc (by have:=HB1.out.size;have:=Hlz.out;omega) o
 exact⟨_,v4,pl,rfl,HC1.out.1.below (Ad _ _),rfl,hq _,fun k h1 h2=>((Ad _ _).block k (by have:=HB1.out.size;have:=Hz.out;omega)).trans ((HC1.out.2 k h1 h2).trans ((Ad _ _).block k (by have:=Hz.out;omega)))⟩
set_option maxHeartbeats 4000000 in
theorem b1j(lo a b:Nat)(w:World)(B1 B2 B3 B4 g:Nat)(aP:Option Addr)(cP:Nat)(l:List Pk)(v1 v4:Value)(said:List Int)(pl:List (Pst × Option Addr × Nat))(beg:List Nat)(Z:List (Nat × Array Value))(W:Wd)(v:Value)(i:Nat)(E:Int)
  (h:Cs lo a b w B1 B2 B3 B4 g v1 (Y aP l.length cP) v4 said pl beg Z) (hz:b<=w.heap.size) (hr:Na w aP cP l) (hrl:∀ ad,aP=some ad->ad.block<lo) (hi:i<l.length) (hs:said.length<=300) (hps:pl.length<=300) (hW:WIn a b w v W) (hE:E=0) (hT:(l[i]'hi).tick=true) :
  Calls Tryz.prog 80 #[O J i,v,O J E,.pointer (some ⟨B1,0,none⟩),.pointer (some ⟨B2,0,none⟩),.pointer (some ⟨B3,0,none⟩),.pointer (some ⟨B4,0,none⟩)] w (a5p lo a b w B1 B2 B3 B4 g (Y aP l.length cP) (said ++ [E]) (pl.map (·.1)) beg Z):=by
 obtain⟨aS,aH,aF,aL,cS,cH,cF,cL,aT,cT,lt,rfl,-⟩:=hW w (fun _ _ _=>rfl)
 subst hE
 have b0:Below w.heap.size w (w.alloc (.cells #[Y aS W.m.slots.length cS,Y aH W.m.heads.length cH,Y aF W.m.free.length cF,Y aL W.m.locks.length cL,O J W.m.now,Y aT W.ts.length cT] 28)):=Ad _ _
 have HC0:Hid (Cs lo a b (w.alloc (.cells #[Y aS W.m.slots.length cS,Y aH W.m.heads.length cH,Y aF W.m.free.length cF,Y aL W.m.locks.length cL,O J W.m.now,Y aT W.ts.length cT] 28)) B1 B2 B3 B4 g v1 (Y aP l.length cP) v4 said pl beg Z):=h.below b0
 have HY0:Hid ((w.alloc (.cells #[Y aS W.m.slots.length cS,Y aH W.m.heads.length cH,Y aF W.m.free.length cF,Y aL W.m.locks.length cL,O J W.m.now,Y aT W.ts.length cT] 28)).heap[w.heap.size]?=some (.cells #[Y aS W.m.slots.length cS,Y aH W.m.heads.length cH,Y aF W.m.free.length cF,Y aL W.m.locks.length cL,O J W.m.now,Y aT W.ts.length cT] 28 (0,0))):=heap_alloc_new _ _
 have Hlz:Hid (lo<=w.heap.size):=by have:=h.o1.1;have:=lt_of_block h.s;show _<=_;omega
 have HW0:Hid (WIn a b w (.agg #[Y aS W.m.slots.length cS,Y aH W.m.heads.length cH,Y aF W.m.free.length cF,Y aL W.m.locks.length cL,O J W.m.now,Y aT W.ts.length cT]) W):=hW
 have Hz:Hid (b<=w.heap.size):=hz
 rcases hr.at_ with hn|⟨bP,oP,rfl,hx⟩
 ·omega
 have hbl:bP<lo:=hrl _ rfl
 have Hrx:Hid (w.rangeAt bP (oP+i*9) [O J (l[i]).Bc,.bool (l[i]).step,.bool (l[i]).tick,O J ((l[i]).c).kind,O J ((l[i]).c).a,O J ((l[i]).c).b,O J ((l[i]).c).time,O J ((l[i]).c).bk,O J ((l[i]).c).slot]):=hx i hi
 have hmax:=hr.max
 have hle:=hr.le
 obtain⟨x,hxe⟩:∃ x,x=l[i]:=⟨_,rfl⟩
 have Hxe:Hid (x=l[i]):=hxe
 rw[<- hxe] at Hrx hT
 have HCell:Hid (∀ j u,[Value.int .i64 0][j]?=some u->(((w.alloc (.cells #[Y aS W.m.slots.length cS,Y aH W.m.heads.length cH,Y aF W.m.free.length cF,Y aL W.m.locks.length cL,O J W.m.now,Y aT W.ts.length cT] 28))).alloc (.cells #[O J 0] 36)).cell? ((⟨w.heap.size+1,0,none⟩:Addr).add j)=some u):=fun j u hu=>by
  have h1:=cell_one_new (w.alloc (.cells #[Y aS W.m.slots.length cS,Y aH W.m.heads.length cH,Y aF W.m.free.length cF,Y aL W.m.locks.length cL,O J W.m.now,Y aT W.ts.length cT] 28)) (O J 0) 36 j u hu
  rwa [show (w.alloc (.cells #[Y aS W.m.slots.length cS,Y aH W.m.heads.length cH,Y aF W.m.free.length cF,Y aL W.m.locks.length cL,O J W.m.now,Y aT W.ts.length cT] 28)).heap.size=w.heap.size+1 by simp] at h1
 obtain⟨i0,hi0,hq0,hq1,hq2⟩:=info_parts iE
 obtain⟨a1,k1,rfl⟩:=D9 HC0.out.so
 have HO:Hid ((w.alloc (.cells #[Y aS W.m.slots.length cS,Y aH W.m.heads.length cH,Y aF W.m.free.length cF,Y aL W.m.locks.length cL,O J W.m.now,Y aT W.ts.length cT] 28)).ownsRow lo 36 1 (Y a1 said.length k1) said.length (encI said)):=HC0.out.so
 have HBw:Hid (∀ (w2:World) (o:Obj) (v':Value),((w.alloc (.cells #[Y aS W.m.slots.length cS,Y aH W.m.heads.length cH,Y aF W.m.free.length cF,Y aL W.m.locks.length cL,O J W.m.now,Y aT W.ts.length cT] 28)).alloc o).grownBy w2 (Value.slice a1 said.length k1).ownBlock->Below lo w (w2.setCell ⟨B1,0,none⟩ v')):=fun w2 o v' hg=>Iz ((Below.mono (Ad w _) Hlz.out)) hg (fun k hk=>(HO.out.lt k hk).1) (by have:=Hlz.out;simp;omega) HC0.out.o1.1
 obtain⟨c1,f1,l1⟩:=Aq HC0.out.s
 clear h hW hr b0 hrl hx hz hxe
 go_enter Tryz.func80,Tryz.ntmps80
 go_wp2_with (first|(at_builtin;refine wpList_append_own_at _ rfl (.tmp 12) (.tmp 14) 68 rfl lo 36 i0 (O J 0) 1 8 Tryz.underlying68 hi0 hq0 hq1 hq2 rfl (by decide) _ _ _ rfl (HO.out.alloc _) ⟨w.heap.size+1,0,none⟩ 1 1 [O J 0] rfl rfl HCell.out (by intro u hu;simp at hu;subst hu;rfl) (by unfold maxLen;omega) (by omega) (by have:=Hlz.out;simp;omega) ?_;intro v2 w2 ho2 hg2 _ hloc2;obtain⟨g2,cap2,rfl⟩:=ownsRow_form ho2 (by omega);have HC1:Hid _:=Cs.say HC0.out (by have:=Hz.out;simp;omega) hg2 ho2 hloc2;obtain⟨d1,e1,lB2⟩:=Aq (F6 HC0.out.s hg2 (own_ne HO.out HC0.out.s (by decide)));have HB1:Hid _:=HBw.out _ _ (Y (some ⟨g2,0,none⟩) (said.length+1) cap2) hg2;obtain⟨d2,e2,lB3⟩:=Aq HC1.out.1.x;have Hrx1:Hid _:=Fq Hrx.out HB1.out hbl;have HC2:=fun o:Obj=>HC1.out.1.below (Ad _ o);have d3:=fun o:Obj=>(Aq (HC2 o).f).1;have e3:=fun o:Obj=>(Aq (HC2 o).f).2.1;have d4:=fun o:Obj=>(Aq (HC2 o).p).1;have e4:=fun o:Obj=>(Aq (HC2 o).p).2.1; clear HC2 c1 f1 l1 ho2 hg2 hloc2 HC0 HO HBw)|refine a2e rfl _ rfl rfl Hrx1.out ?_)
 refine bodyPost_ret (results_none rfl _ _ _) rfl ?_
 have hq:∀ o:Obj,Below lo w (World.alloc _ o):=fun o=>HB1.out.alloc (by have:=HB1.out.size;have:=Hlz.out;omega) o
 exact⟨_,v4,pl,rfl,HC1.out.1.below (Ad _ _),rfl,hq _,fun k h1 h2=>((Ad _ _).block k (by have:=HB1.out.size;have:=Hz.out;omega)).trans ((HC1.out.2 k h1 h2).trans ((Ad _ _).block k (by have:=Hz.out;omega)))⟩
set_option maxHeartbeats 4000000 in
theorem a7p(lo a b:Nat)(w:World)(B1 B2 B3 B4 g:Nat)(aP:Option Addr)(cP:Nat)(l:List Pk)(v1 v4:Value)(said:List Int)(pl:List (Pst × Option Addr × Nat))(beg:List Nat)(Z:List (Nat × Array Value))(W:Wd)(v:Value)(i:Nat)(E:Int)
  (h:Cs lo a b w B1 B2 B3 B4 g v1 (Y aP l.length cP) v4 said pl beg Z) (hz:b<=w.heap.size) (hr:Na w aP cP l) (hrl:∀ ad,aP=some ad->ad.block<lo) (hi:i<l.length) (hs:said.length<=300) (hps:pl.length<=300) (hW:WIn a b w v W) (hE:E=0) (hT:(l[i]'hi).tick=false) (hS:(l[i]'hi).step=false) (hk:0<=(l[i]'hi).Bc/\(l[i]'hi).Bc<beg.length) :
  Calls Tryz.prog 80 #[O J i,v,O J E,.pointer (some ⟨B1,0,none⟩),.pointer (some ⟨B2,0,none⟩),.pointer (some ⟨B3,0,none⟩),.pointer (some ⟨B4,0,none⟩)] w (a5p lo a b w B1 B2 B3 B4 g (Y aP l.length cP) (said ++ [E]) (pl.map (·.1)) (beg.set (l[i]'hi).Bc.toNat i) Z):=by
 obtain⟨aS,aH,aF,aL,cS,cH,cF,cL,aT,cT,lt,rfl,-⟩:=hW w (fun _ _ _=>rfl)
 subst hE
 have b0:Below w.heap.size w (w.alloc (.cells #[Y aS W.m.slots.length cS,Y aH W.m.heads.length cH,Y aF W.m.free.length cF,Y aL W.m.locks.length cL,O J W.m.now,Y aT W.ts.length cT] 28)):=Ad _ _
 have HC0:Hid (Cs lo a b (w.alloc (.cells #[Y aS W.m.slots.length cS,Y aH W.m.heads.length cH,Y aF W.m.free.length cF,Y aL W.m.locks.length cL,O J W.m.now,Y aT W.ts.length cT] 28)) B1 B2 B3 B4 g v1 (Y aP l.length cP) v4 said pl beg Z):=h.below b0
 have HY0:Hid ((w.alloc (.cells #[Y aS W.m.slots.length cS,Y aH W.m.heads.length cH,Y aF W.m.free.length cF,Y aL W.m.locks.length cL,O J W.m.now,Y aT W.ts.length cT] 28)).heap[w.heap.size]?=some (.cells #[Y aS W.m.slots.length cS,Y aH W.m.heads.length cH,Y aF W.m.free.length cF,Y aL W.m.locks.length cL,O J W.m.now,Y aT W.ts.length cT] 28 (0,0))):=heap_alloc_new _ _
 have Hlz:Hid (lo<=w.heap.size):=by have:=h.o1.1;have:=lt_of_block h.s;show _<=_;omega
 have HW0:Hid (WIn a b w (.agg #[Y aS W.m.slots.length cS,Y aH W.m.heads.length cH,Y aF W.m.free.length cF,Y aL W.m.locks.length cL,O J W.m.now,Y aT W.ts.length cT]) W):=hW
 have Hz:Hid (b<=w.heap.size):=hz
 rcases hr.at_ with hn|⟨bP,oP,rfl,hx⟩
 ·omega
 have hbl:bP<lo:=hrl _ rfl
 have Hrx:Hid (w.rangeAt bP (oP+i*9) [O J (l[i]).Bc,.bool (l[i]).step,.bool (l[i]).tick,O J ((l[i]).c).kind,O J ((l[i]).c).a,O J ((l[i]).c).b,O J ((l[i]).c).time,O J ((l[i]).c).bk,O J ((l[i]).c).slot]):=hx i hi
 have hmax:=hr.max
 have hle:=hr.le
 obtain⟨x,hxe⟩:∃ x,x=l[i]:=⟨_,rfl⟩
 have Hxe:Hid (x=l[i]):=hxe
 rw[<- hxe] at Hrx hT hS hk ⊢
 have HCell:Hid (∀ j u,[Value.int .i64 0][j]?=some u->(((w.alloc (.cells #[Y aS W.m.slots.length cS,Y aH W.m.heads.length cH,Y aF W.m.free.length cF,Y aL W.m.locks.length cL,O J W.m.now,Y aT W.ts.length cT] 28))).alloc (.cells #[O J 0] 36)).cell? ((⟨w.heap.size+1,0,none⟩:Addr).add j)=some u):=fun j u hu=>by
  have h1:=cell_one_new (w.alloc (.cells #[Y aS W.m.slots.length cS,Y aH W.m.heads.length cH,Y aF W.m.free.length cF,Y aL W.m.locks.length cL,O J W.m.now,Y aT W.ts.length cT] 28)) (O J 0) 36 j u hu
  rwa [show (w.alloc (.cells #[Y aS W.m.slots.length cS,Y aH W.m.heads.length cH,Y aF W.m.free.length cF,Y aL W.m.locks.length cL,O J W.m.now,Y aT W.ts.length cT] 28)).heap.size=w.heap.size+1 by simp] at h1
 obtain⟨i0,hi0,hq0,hq1,hq2⟩:=info_parts iE
 obtain⟨a1,k1,rfl⟩:=D9 HC0.out.so
 have HO:Hid ((w.alloc (.cells #[Y aS W.m.slots.length cS,Y aH W.m.heads.length cH,Y aF W.m.free.length cF,Y aL W.m.locks.length cL,O J W.m.now,Y aT W.ts.length cT] 28)).ownsRow lo 36 1 (Y a1 said.length k1) said.length (encI said)):=HC0.out.so
 have HBw:Hid (∀ (w2:World) (o:Obj) (v':Value),((w.alloc (.cells #[Y aS W.m.slots.length cS,Y aH W.m.heads.length cH,Y aF W.m.free.length cF,Y aL W.m.locks.length cL,O J W.m.now,Y aT W.ts.length cT] 28)).alloc o).grownBy w2 (Value.slice a1 said.length k1).ownBlock->Below lo w (w2.setCell ⟨B1,0,none⟩ v')):=fun w2 o v' hg=>Iz ((Below.mono (Ad w _) Hlz.out)) hg (fun k hk=>(HO.out.lt k hk).1) (by have:=Hlz.out;simp;omega) HC0.out.o1.1
 obtain⟨c1,f1,l1⟩:=Aq HC0.out.s
 clear h hW hr b0 hrl hx hz hxe
 go_enter Tryz.func80,Tryz.ntmps80
 go_wp2_with (first|(at_builtin;refine wpList_append_own_at _ rfl (.tmp 12) (.tmp 14) 68 rfl lo 36 i0 (O J 0) 1 8 Tryz.underlying68 hi0 hq0 hq1 hq2 rfl (by decide) _ _ _ rfl (HO.out.alloc _) ⟨w.heap.size+1,0,none⟩ 1 1 [O J 0] rfl rfl HCell.out (by intro u hu;simp at hu;subst hu;rfl) (by unfold maxLen;omega) (by omega) (by have:=Hlz.out;simp;omega) ?_;intro v2 w2 ho2 hg2 _ hloc2;obtain⟨g2,cap2,rfl⟩:=ownsRow_form ho2 (by omega);have HC1:Hid _:=Cs.say HC0.out (by have:=Hz.out;simp;omega) hg2 ho2 hloc2;obtain⟨d1,e1,lB2⟩:=Aq (F6 HC0.out.s hg2 (own_ne HO.out HC0.out.s (by decide)));have HB1:Hid _:=HBw.out _ _ (Y (some ⟨g2,0,none⟩) (said.length+1) cap2) hg2;obtain⟨d2,e2,lB3⟩:=Aq HC1.out.1.x;have Hrx1:Hid _:=Fq Hrx.out HB1.out hbl;have HC2:=fun o:Obj=>HC1.out.1.below (Ad _ o);have d3:=fun o:Obj=>(Aq (HC2 o).f).1;have e3:=fun o:Obj=>(Aq (HC2 o).f).2.1;have d4:=fun o:Obj=>(Aq (HC2 o).p).1;have e4:=fun o:Obj=>(Aq (HC2 o).p).2.1;have hk1:=hk.1;have hk2:=hk.2;have e5:=fun o:Obj=>unfrozen_of_block (HC2 o).fo x.Bc.toNat;have d5:=fun o:Obj=>Cs.fat (HC2 o) (t:=x.Bc.toNat) (by omega);clear HC2 c1 f1 l1 ho2 hg2 hloc2 HC0 HO HBw)|refine a2e rfl _ rfl rfl Hrx1.out ?_)
 refine bodyPost_end (results_none rfl _ _ _) rfl ?_
 have hq:∀ o:Obj,Below lo w (World.alloc _ o):=fun o=>HB1.out.alloc (by have:=HB1.out.size;have:=Hlz.out;omega) o
 have hs2:=fun o:Obj=>Cs.start (HC1.out.1.below (Ad _ o)) x.Bc.toNat i (by omega)
 exact⟨_,v4,pl,rfl,(hs2 _).1,rfl,(hq _).setCell HC1.out.1.og _,fun k h1 h2=>((hs2 _).2 k h1 h2).trans (((Ad _ _).block k (by have:=HB1.out.size;have:=Hz.out;omega)).trans ((HC1.out.2 k h1 h2).trans ((Ad _ _).block k (by have:=Hz.out;omega))))⟩
end
section
open Go.ChangeShapes Go.WideShapes Go.ChangeAt Go.RowKit Go.Joins Go.Deep Go.Maps
theorem Y0{a:Nat}{w:World}{aS aH aF aL:Option Addr}{cS cH cF cL:Nat}{aT:Option Addr}{cT:Nat}{W:Wd}(h:Gh a w (.agg #[Y aS W.m.slots.length cS,Y aH W.m.heads.length cH,Y aF W.m.free.length cF,Y aL W.m.locks.length cL,O J W.m.now,Y aT W.ts.length cT]) W){t:Nat}(ht:t<W.ts.length) :
  ∃ lt:TkV,Hid (Ag w lt.aK lt.cK (W.ts.getD t idle).f.keys)/\W.ts.length<=cT/\∃ p q,aT=some ⟨p,q,none⟩/\Hid (w.rangeAt p (q+t*16) ((W.ts.getD t idle).enc lt)):=by
 obtain⟨bS,bH,bF,bL,dS,dH,dF,dL,bT,dT,lt,e,A,hi,hts,hT,hTh⟩:=h
 have e1:=Value.agg.inj e
 simp only[Array.mk.injEq,List.cons.injEq,Value.slice.injEq,true_and,and_true] at e1
 obtain⟨-,-,-,-,rfl,rfl⟩:=e1
 have hl:W.ts.length=lt.length:=by rw[hts,List.length_map]
 have hg:W.ts.getD t idle=lt[t].1:=by rw[List.getD_eq_getElem?_getD,hts];simp[show t<lt.length by omega]
 obtain⟨p,q,rfl⟩:=hT.addr (by omega)
 refine⟨lt[t].2,?_,by have:=hT.le;omega,p,q,rfl,?_⟩
 ·rw[hg];exact hT.keys _ (List.getElem_mem _)
 ·rw[hg];exact hT.range (by omega)
set_option maxHeartbeats 4000000 in
theorem b1h(lo a b:Nat)(w:World)(B1 B2 B3 B4 g:Nat)(aP:Option Addr)(cP:Nat)(l:List Pk)(v1 v4:Value)(said:List Int)(pl:List (Pst × Option Addr × Nat))(beg:List Nat)(Z:List (Nat × Array Value))(W:Wd)(v:Value)(i:Nat)(E:Int)
  (h:Cs lo a b w B1 B2 B3 B4 g v1 (Y aP l.length cP) v4 said pl beg Z) (hz:b<=w.heap.size) (hr:Na w aP cP l) (hrl:∀ ad,aP=some ad->ad.block<lo) (hi:i<l.length) (hs:said.length<=300) (hps:pl.length<=300) (hW:WIn a b w v W) (hE:E=0) (hT:(l[i]'hi).tick=false) (hS:(l[i]'hi).step=true) (hk:0<=(l[i]'hi).Bc/\(l[i]'hi).Bc<W.ts.length) (hB:(W.ts.getD (l[i]'hi).Bc.toNat idle).busy=true) :
  Calls Tryz.prog 80 #[O J i,v,O J E,.pointer (some ⟨B1,0,none⟩),.pointer (some ⟨B2,0,none⟩),.pointer (some ⟨B3,0,none⟩),.pointer (some ⟨B4,0,none⟩)] w (a5p lo a b w B1 B2 B3 B4 g (Y aP l.length cP) (said ++ [E]) (pl.map (·.1)) beg Z):=by
 obtain⟨aS,aH,aF,aL,cS,cH,cF,cL,aT,cT,lt,rfl,-⟩:=hW w (fun _ _ _=>rfl)
 subst hE
 have hk0:(l[i]'hi).Bc.toNat<W.ts.length:=by omega
 obtain⟨-,-,hcT,pT,qT,rfl,-⟩:=Y0 (hW w fun _ _ _=>rfl) hk0
 clear hk0
 have b0:Below w.heap.size w (w.alloc (.cells #[Y aS W.m.slots.length cS,Y aH W.m.heads.length cH,Y aF W.m.free.length cF,Y aL W.m.locks.length cL,O J W.m.now,Y (some ⟨pT,qT,none⟩) W.ts.length cT] 28)):=Ad _ _
 have HC0:Hid (Cs lo a b (w.alloc (.cells #[Y aS W.m.slots.length cS,Y aH W.m.heads.length cH,Y aF W.m.free.length cF,Y aL W.m.locks.length cL,O J W.m.now,Y (some ⟨pT,qT,none⟩) W.ts.length cT] 28)) B1 B2 B3 B4 g v1 (Y aP l.length cP) v4 said pl beg Z):=h.below b0
 have HY0:Hid ((w.alloc (.cells #[Y aS W.m.slots.length cS,Y aH W.m.heads.length cH,Y aF W.m.free.length cF,Y aL W.m.locks.length cL,O J W.m.now,Y (some ⟨pT,qT,none⟩) W.ts.length cT] 28)).heap[w.heap.size]?=some (.cells #[Y aS W.m.slots.length cS,Y aH W.m.heads.length cH,Y aF W.m.free.length cF,Y aL W.m.locks.length cL,O J W.m.now,Y (some ⟨pT,qT,none⟩) W.ts.length cT] 28 (0,0))):=heap_alloc_new _ _
 have Hlz:Hid (lo<=w.heap.size):=by have:=h.o1.1;have:=lt_of_block h.s;show _<=_;omega
 have HW0:Hid (WIn a b w (.agg #[Y aS W.m.slots.length cS,Y aH W.m.heads.length cH,Y aF W.m.free.length cF,Y aL W.m.locks.length cL,O J W.m.now,Y (some ⟨pT,qT,none⟩) W.ts.length cT]) W):=hW
 have Hz:Hid (b<=w.heap.size):=hz
 rcases hr.at_ with hn|⟨bP,oP,rfl,hx⟩
 ·omega
 have hbl:bP<lo:=hrl _ rfl
 have Hrx:Hid (w.rangeAt bP (oP+i*9) [O J (l[i]).Bc,.bool (l[i]).step,.bool (l[i]).tick,O J ((l[i]).c).kind,O J ((l[i]).c).a,O J ((l[i]).c).b,O J ((l[i]).c).time,O J ((l[i]).c).bk,O J ((l[i]).c).slot]):=hx i hi
 have hmax:=hr.max
 have hle:=hr.le
 obtain⟨x,hxe⟩:∃ x,x=l[i]:=⟨_,rfl⟩
 have Hxe:Hid (x=l[i]):=hxe
 rw[<- hxe] at Hrx hT hS hk hB 
 obtain⟨xt,xs,xk,xc⟩:=x
 dsimp only at Hrx hT hS hk hB 
 subst hT hS
 obtain⟨tk,rfl⟩:∃ tk:Nat,xt=tk:=⟨xt.toNat,by omega⟩
 rw[Int.toNat_natCast] at hB 
 have hk2:tk<W.ts.length:=by omega
 have l1w:B1<w.heap.size:=lt_of_block h.s
 obtain⟨t,hte⟩:∃ t,t=W.ts.getD tk idle:=⟨_,rfl⟩
 have Hte:Hid (t=W.ts.getD tk idle):=hte
 rw[<- hte] at hB 
 clear hte
 have HCell:Hid (∀ j u,[Value.int .i64 0][j]?=some u->(((w.alloc (.cells #[Y aS W.m.slots.length cS,Y aH W.m.heads.length cH,Y aF W.m.free.length cF,Y aL W.m.locks.length cL,O J W.m.now,Y (some ⟨pT,qT,none⟩) W.ts.length cT] 28))).alloc (.cells #[O J 0] 36)).cell? ((⟨w.heap.size+1,0,none⟩:Addr).add j)=some u):=fun j u hu=>by
  have h1:=cell_one_new (w.alloc (.cells #[Y aS W.m.slots.length cS,Y aH W.m.heads.length cH,Y aF W.m.free.length cF,Y aL W.m.locks.length cL,O J W.m.now,Y (some ⟨pT,qT,none⟩) W.ts.length cT] 28)) (O J 0) 36 j u hu
  rwa [show (w.alloc (.cells #[Y aS W.m.slots.length cS,Y aH W.m.heads.length cH,Y aF W.m.free.length cF,Y aL W.m.locks.length cL,O J W.m.now,Y (some ⟨pT,qT,none⟩) W.ts.length cT] 28)).heap.size=w.heap.size+1 by simp] at h1
 obtain⟨i0,hi0,hq0,hq1,hq2⟩:=info_parts iE
 obtain⟨a1,k1,rfl⟩:=D9 HC0.out.so
 have HO:Hid ((w.alloc (.cells #[Y aS W.m.slots.length cS,Y aH W.m.heads.length cH,Y aF W.m.free.length cF,Y aL W.m.locks.length cL,O J W.m.now,Y (some ⟨pT,qT,none⟩) W.ts.length cT] 28)).ownsRow lo 36 1 (Y a1 said.length k1) said.length (encI said)):=HC0.out.so
 have HBw:Hid (∀ (w2:World) (o:Obj) (v':Value),((w.alloc (.cells #[Y aS W.m.slots.length cS,Y aH W.m.heads.length cH,Y aF W.m.free.length cF,Y aL W.m.locks.length cL,O J W.m.now,Y (some ⟨pT,qT,none⟩) W.ts.length cT] 28)).alloc o).grownBy w2 (Value.slice a1 said.length k1).ownBlock->Below lo w (w2.setCell ⟨B1,0,none⟩ v')):=fun w2 o v' hg=>Iz ((Below.mono (Ad w _) Hlz.out)) hg (fun k hk=>(HO.out.lt k hk).1) (by have:=Hlz.out;simp;omega) HC0.out.o1.1
 obtain⟨c1,f1,l1⟩:=Aq HC0.out.s
 clear h hW hr b0 hrl hx hz hxe
 go_enter Tryz.func80,Tryz.ntmps80
 go_wp2_with (first|(at_builtin;go_loud (refine wpList_append_own_at _ rfl (.tmp 12) (.tmp 14) 68 rfl lo 36 i0 (O J 0) 1 8 Tryz.underlying68 hi0 hq0 hq1 hq2 rfl (by decide) _ _ _ rfl (HO.out.alloc _) ⟨w.heap.size+1,0,none⟩ 1 1 [O J 0] rfl rfl HCell.out (by intro u hu;simp at hu;subst hu;rfl) (by unfold maxLen;omega) (by omega) (by have:=Hlz.out;simp;omega) ?_;intro v2 w2 ho2 hg2 _ hloc2;obtain⟨g2,cap2,rfl⟩:=ownsRow_form ho2 (by omega);have HC1:Hid _:=Cs.say HC0.out (by have:=Hz.out;simp;omega) hg2 ho2 hloc2;obtain⟨d1,e1,lB2⟩:=Aq (F6 HC0.out.s hg2 (own_ne HO.out HC0.out.s (by decide)));have HB1:Hid _:=HBw.out _ _ (Y (some ⟨g2,0,none⟩) (said.length+1) cap2) hg2;obtain⟨d2,e2,lB3⟩:=Aq HC1.out.1.x;have Hrx1:Hid _:=Fq Hrx.out HB1.out hbl;have HZ2:Hid _:=F6 HY0.out hg2 (own_ne HO.out HY0.out (by decide));have hz2:=lt_of_block HZ2.out;have HZ3:Hid ((World.heap (World.alloc (World.setCell w2 ⟨B1,0,none⟩ (Y (some ⟨g2,0,none⟩) (said.length+1) cap2)) (.cells #[O J tk,.bool true,.bool false,O J xc.kind,O J xc.a,O J xc.b,O J xc.time,O J xc.bk,O J xc.slot] 34)))[w.heap.size]?=some (.cells #[Y aS W.m.slots.length cS,Y aH W.m.heads.length cH,Y aF W.m.free.length cF,Y aL W.m.locks.length cL,O J W.m.now,Y (some ⟨pT,qT,none⟩) W.ts.length cT] 28 (0,0))):=((Ad _ _).block _ (by first|(simp;done)|(simp;omega)|(have:=HB1.out.size;omega))).trans ((Below.heap_setCell _ _ _ _ (by dsimp only;omega)).trans HZ2.out);obtain⟨z0,z1,z2,z3,z4,z5,zs⟩:=Ew HZ3.out;have HWn:Hid _:=HW0.out (World.alloc (World.setCell w2 ⟨B1,0,none⟩ (Y (some ⟨g2,0,none⟩) (said.length+1) cap2)) (.cells #[O J tk,.bool true,.bool false,O J xc.kind,O J xc.a,O J xc.b,O J xc.time,O J xc.bk,O J xc.slot] 34)) (fun k h1 h2=>((Ad _ _).block k (by have:=HB1.out.size;have:=Hz.out;omega)).trans ((HC1.out.2 k h1 h2).trans ((Ad _ _).block k (by have:=Hz.out;omega))));obtain⟨lt2,hts2,ht2,p2,q2,hpT,Hrt⟩:=Y0 HWn.out hk2;cases hpT;rw[<- Hte.out] at Hrt hts2;clear c1 f1 l1 ho2 hg2 hloc2 HC0 HO HBw))|refine a2e (x0:=⟨(tk:Int),true,false,xc⟩) rfl _ rfl rfl Hrx1.out ?_|refine a9m rfl _ rfl rfl Hrt.out ?_)
 refine bodyPost_end (results_none rfl _ _ _) rfl ?_
 have hq:∀ o:Obj,Below lo w (World.alloc _ o):=fun o=>HB1.out.alloc (by have:=HB1.out.size;have:=Hlz.out;omega) o
 have hq2:∀ o o2:Obj,Below lo w (World.alloc (World.alloc _ o) o2):=fun o o2=>(hq o).alloc (by have:=(hq o).size;have:=Hlz.out;omega) o2
 exact⟨_,v4,pl,rfl,(HC1.out.1.below (Ad _ _)).below (Ad _ _),rfl,hq2 _ _,fun k h1 h2=>((Ad _ _).block k (by have:=(hq (.cells #[] 0)).size;have:=HB1.out.size;have:=Hz.out;simp;omega)).trans (((Ad _ _).block k (by have:=HB1.out.size;have:=Hz.out;omega)).trans ((HC1.out.2 k h1 h2).trans ((Ad _ _).block k (by have:=Hz.out;omega))))⟩
end
section
open Go Go.RowKit
def a2c(x:Nat->Value)(d:Nat)(v:Value):Nat->Value:=fun k=>if k=d then v else x k
theorem Dy{P:Program}{ops:Array Oper}{Q:Exit->Act->World->Prop}{i:Nat}{o:Oper}{a:Act}{w w':World}{v:Value}{K:Act->World->Prop}(hi:ops[i]?=some o)(hw:Region.wanted o (yielded ops a.tmps)=true)
  (hr:(execOp a.eval o).run P w=.ok (.value v) w') (h:K (a.put o.dst v) w'):wpOp P ops Q i K a w:=by
 refine wpOp_step hi fun K' hK=>?_
 rw[if_pos hw]
 unfold Oper.wp
 rw[hr]
 exact hK _ _ h
theorem a4o{P:Program}{ops:Array Oper}{Q:Exit->Act->World->Prop}{i:Nat}{o:Oper}{a:Act}{w:World}{f:Nat}{args:Array Value}{K:Act->World->Prop}(hi:ops[i]?=some o)(hw:Region.wanted o (yielded ops a.tmps)=true)
  (hr:(execOp a.eval o).run P w=.ok (.enter f args) w) (h:Calls P f args w fun e w'=>∃ v,e=.returned v/\K (a.put o.dst v) w'):wpOp P ops Q i K a w:=by
 refine wpOp_step hi fun K' hK=>?_
 rw[if_pos hw]
 unfold Oper.wp
 rw[hr]
 refine Calls.mono h ?_
 rintro e w' ⟨v,rfl,hv⟩
 exact hK _ _ hv
theorem C9{o:Oper}{f:Nat->Option Bool}(h:o.guard=none):Region.wanted o f=true:=by unfold Region.wanted;rw[h]
theorem Ul{md:Region.Mode}{ops:Array Oper}{listed:Array Bool}(hr:Region.ready md ops listed=[])(hs:listed.size=ops.size)
  (he:((List.range ops.size).all fun i=>((ops[i]?).map fun o=>o.after.all fun e=>decide (e.on<i)).getD true)=true):∀ n i,i<n->i<ops.size->listed.getD i false=true
 | 0,i,h,_=>by omega
 | n+1,i,h,hi=>by
  cases hl:listed.getD i false with
  | true=>rfl
  | false =>
   exfalso
   have hlt:listed.getD i true=false:=by
    simpa [Array.getD_eq_getD_getElem?,hs,hi] using hl
   have hm:i∈Region.ready md ops listed:=by
    unfold Region.ready
    rw[List.mem_filter]
    refine⟨by simpa using hi,?_⟩
    rw[hlt]
    have h1:=List.all_eq_true.1 he i (by simpa using hi)
    have ho:ops[i]?=some ops[i]:=Array.getElem?_eq_getElem hi
    rw[ho] at h1 ⊢
    simp only[Option.map_some,Option.getD_some] at h1 ⊢
    simp only[Bool.not_false,Bool.true_and]
    rw[Array.all_eq_true'] at h1 ⊢
    intro e hm
    have h2:=h1 e hm
    have h3:e.on<i:=by simpa using h2
    rw[Ul hr hs he n e.on (by omega) (by omega)]
    simp
   rw[hr] at hm
   cases hm
theorem Uk{md:Region.Mode}{ops:Array Oper}{listed:Array Bool}(hr:Region.ready md ops listed=[])(hs:listed.size=ops.size)
  (he:((List.range ops.size).all fun i=>((ops[i]?).map fun o=>o.after.all fun e=>decide (e.on<i) || !Region.binds md e).getD true)=true):∀ n i,i<n->i<ops.size->listed.getD i false=true
 | 0,i,h,_=>by omega
 | n+1,i,h,hi=>by
  cases hl:listed.getD i false with
  | true=>rfl
  | false =>
   exfalso
   have hlt:listed.getD i true=false:=by
    simpa [Array.getD_eq_getD_getElem?,hs,hi] using hl
   have hm:i∈Region.ready md ops listed:=by
    unfold Region.ready
    rw[List.mem_filter]
    refine⟨by simpa using hi,?_⟩
    rw[hlt]
    have h1:=List.all_eq_true.1 he i (by simpa using hi)
    have ho:ops[i]?=some ops[i]:=Array.getElem?_eq_getElem hi
    rw[ho] at h1 ⊢
    simp only[Option.map_some,Option.getD_some] at h1 ⊢
    simp only[Bool.not_false,Bool.true_and]
    rw[Array.all_eq_true'] at h1 ⊢
    intro e hm
    have h2:=h1 e hm
    cases hb:Region.binds md e with
    | false=>simp
    | true =>
     rw[hb] at h2
     have h3:e.on<i:=by simpa using h2
     rw[Uk hr hs he n e.on (by omega) (by omega)]
     simp
   rw[hr] at hm
   cases hm
theorem Y2{P:Program}{ops:Array Oper}{Q:Exit->Act->World->Prop}{id:Nat}{a:Act}{w0:World}(hm:P.follows .mixedOrders=true)(mk:(Nat->Value)->Act)(ha:a=mk fun k=>a.tmps.getD k undef)(D:List Nat)(hN:D.Nodup)(hD:D.length=ops.size)
  (he:((List.range ops.size).all fun i=>((ops[i]?).map fun o=>o.after.all fun e=>decide (e.on<i) || !Region.binds .any e).getD true)=true)
  (φ:Nat->Value->World->Prop) (mono:∀ i v w w',φ i v w->Below w.heap.size w w'->φ i v w')
  (step:∀ i,i<ops.size->∀ x W,Below w0.heap.size w0 W->(∀ d,d ∉ D->x d=a.tmps.getD d undef) ->
   (∀ k,(((ops[i]?).map fun o=>o.after.any fun e=>e.on==k && Region.binds .any e).getD false)=true->φ k (x (D.getD k 0)) W) ->
   wpOp P ops Q i (fun a' W'=>∃ v,a'=mk (a2c x (D.getD i 0) v)/\φ i v W'/\Below W.heap.size W W') (mk x) W)
  (fin:∀ x W,Below w0.heap.size w0 W->(∀ d,d ∉ D->x d=a.tmps.getD d undef)->(∀ i,i<ops.size->φ i (x (D.getD i 0)) W)->Q .normal (mk x) W):(Code.region id ops true).wp P Q a w0:=by
 refine Qj hm (fun listed a' W=>∃ x,a'=mk x/\listed.size=ops.size/\Below w0.heap.size w0 W/\(∀ d,d ∉ D->x d=a.tmps.getD d undef)/\∀ i,i<ops.size->listed.getD i false=true->φ i (x (D.getD i 0)) W) ?_ ?_ ?_
 ·refine⟨_,ha,by simp,(Below.refl _ _).drew,fun d _=>rfl,fun i hi h=>?_⟩
  have:(Array.replicate ops.size false).getD i false=false:=by simp[Array.getD_eq_getD_getElem?,hi]
  rw[this] at h
  cases h
 ·rintro listed a' W i hi ⟨x,rfl,hs,hb,hout,hφ⟩
  obtain⟨h1,h2,o,ho,hpre⟩:=Lm hi
  refine wpOp_mono ?_ (step i h1 x W hb hout fun k hk=>?_)
  ·rintro a'' W' ⟨v,rfl,hv,hb'⟩
   refine⟨_,rfl,by simpa using hs,hb.trans (hb'.mono hb.size),fun d hd=>?_,fun j hj hl=>?_⟩
   ·have:d≠D.getD i 0:=by
     rintro rfl
     refine hd ?_
     rw[List.getD_eq_getElem?_getD,List.getElem?_eq_getElem (by omega)]
     exact List.getElem_mem _
    simp only[a2c,if_neg this]
    exact hout d hd
   ·by_cases e:j=i
    ·subst e
     simp only[a2c,if_pos]
     exact hv
    ·have hne:D.getD j 0≠D.getD i 0:=by
      rw[List.getD_eq_getElem?_getD,List.getD_eq_getElem?_getD,List.getElem?_eq_getElem (by omega),List.getElem?_eq_getElem (by omega)]
      simp only[Option.getD_some]
      intro hh
      exact e ((List.getElem_inj hN).1 hh)
     simp only[a2c,if_neg hne]
     have e':¬ i=j:=fun h=>e h.symm
     have hl':listed.getD j false=true:=by
      simpa [Array.getD_eq_getD_getElem?,e'] using hl
     exact mono _ _ _ _ (hφ j hj hl') hb'
  ·rw[ho] at hk
   simp only[Option.map_some,Option.getD_some] at hk
   rw[Array.any_eq_true'] at hk
   obtain⟨e,hem,hek⟩:=hk
   rw[Bool.and_eq_true] at hek
   have hon:e.on=k:=by simpa using hek.1
   have hl:=hpre e hem hek.2
   rw[hon] at hl
   refine hφ k ?_ hl
   refine Nat.lt_of_not_le fun hge=>?_
   have:listed.getD k false=false:=by simp[Array.getD_eq_getD_getElem?,hs,Nat.not_lt.2 hge]
   rw[this] at hl
   cases hl
 ·rintro listed a' W hr ⟨x,rfl,hs,hb,hout,hφ⟩
  exact fin x W hb hout fun i hi=>hφ i hi (Uk hr hs he (i+1) i (by omega) hi)
theorem Xl{listed:Array Bool}{i j:Nat}(h:i≠j)(b:Bool):(listed.setIfInBounds i true).getD j b=listed.getD j b:=by
 simp[Array.getD_eq_getD_getElem?,h]
theorem a1q{listed:Array Bool}{i:Nat}(h:i<listed.size):(listed.setIfInBounds i true).getD i false=true:=by
 simp[Array.getD_eq_getD_getElem?,h]
theorem b9u{listed:Array Bool}{i:Nat}(h:i<listed.size):listed.getD i true=listed.getD i false:=by
 simp[Array.getD_eq_getD_getElem?,h]
theorem Y1{P:Program}{ops:Array Oper}{Q:Exit->Act->World->Prop}{id:Nat}{a:Act}{w0:World}(hm:P.follows .mixedOrders=true)(mk:(Nat->Value)->Act)(ha:a=mk fun k=>a.tmps.getD k undef)(D:List Nat)(hN:D.Nodup)(n:Nat)(hD:D.length=n)(hn:ops.size=n+2)
  (hA:((List.range ops.size).all fun i=>((ops[i]?).map fun o=>o.after.all fun e=>decide (e.on<i)).getD true)=true)
  (he:((List.range n).all fun i=>(List.range (n+1)).any fun j=>decide (i<j) && ((ops[j]?).map fun o=>o.after.any fun e=>e.on==i && Region.binds .any e).getD false)=true)
  (he2:((ops[n+1]?).map fun o=>o.after.any fun e=>e.on==n && Region.binds .any e).getD false=true)
  (φ:Nat->Value->World->Prop) (mono:∀ i v w w',φ i v w->Below w.heap.size w w'->φ i v w')
  (step:∀ i,i<n->∀ x W,Below w0.heap.size w0 W->(∀ d,d ∉ D->x d=a.tmps.getD d undef) ->
   (∀ k,k<n->(((ops[i]?).map fun o=>o.after.any fun e=>e.on==k && Region.binds .any e).getD false)=true->φ k (x (D.getD k 0)) W) ->
   wpOp P ops Q i (fun a' W'=>∃ v,a'=mk (a2c x (D.getD i 0) v)/\φ i v W'/\Below W.heap.size W W') (mk x) W)
  (fin:∀ x W,Below w0.heap.size w0 W->(∀ d,d ∉ D->x d=a.tmps.getD d undef)->(∀ i,i<n->φ i (x (D.getD i 0)) W)->wpOp P ops Q n (fun a' W'=>wpOp P ops Q (n+1) (fun a'' W''=>Q .normal a'' W'') a' W') (mk x) W):(Code.region id ops true).wp P Q a w0:=by
 -- whatever waits for what has not come up has not come up,and can't
 have wait:∀ (listed:Array Bool),(∀ j o,ops[j]?=some o->listed.getD j false=true->∀ e∈o.after,Region.binds .any e=true->listed.getD e.on false=true)->∀ i j,j<n+2->(((ops[j]?).map fun o=>o.after.any fun e=>e.on==i && Region.binds .any e).getD false)=true->listed.getD i false=false->listed.getD j false=false/\j ∉ Region.ready .any ops listed:=by
  intro listed hc i j hj h3 hl
  have ho:ops[j]?=some (ops[j]'(by omega)):=Array.getElem?_eq_getElem (by omega)
  rw[ho] at h3
  simp only[Option.map_some,Option.getD_some] at h3
  rw[Array.any_eq_true'] at h3
  obtain⟨e,hem,hek⟩:=h3
  rw[Bool.and_eq_true] at hek
  have hon:e.on=i:=by simpa using hek.1
  refine⟨?_,fun hr=>?_⟩
  ·cases hlj:listed.getD j false with
   | false=>rfl
   | true =>
    have:=hc j _ ho hlj e hem hek.2
    rw[hon,hl] at this
    cases this
  ·obtain⟨-,-,o,ho',hpre⟩:=Lm hr
   rw[ho] at ho'
   cases ho'
   have:=hpre e hem hek.2
   rw[hon,hl] at this
   cases this
 have wn:∀ (listed:Array Bool),(∀ j o,ops[j]?=some o->listed.getD j false=true->∀ e∈o.after,Region.binds .any e=true->listed.getD e.on false=true)->∀ m i,n - i<=m->i<n->listed.getD i false=false->listed.getD n false=false/\n ∉ Region.ready .any ops listed:=by
  intro listed hc m
  induction m with
  | zero=>intro i h1 h2;omega
  | succ m ih =>
   intro i h1 h2 hl
   have h3:=List.all_eq_true.1 he i (by simpa using h2)
   obtain⟨j,hj,h4⟩:=List.any_eq_true.1 h3
   rw[Bool.and_eq_true] at h4
   have hij:i<j:=by simpa using h4.1
   have hjn:j<n+1:=by simpa using hj
   have h5:=wait listed hc i j (by omega) h4.2 hl
   by_cases e:j=n
   ·subst e;exact h5
   ·exact ih j (by omega) (by omega) h5.1
 refine Qj hm (fun listed a' W=>(listed.size=ops.size/\∀ j o,ops[j]?=some o->listed.getD j false=true->∀ e∈o.after,Region.binds .any e=true->listed.getD e.on false=true) /\
  ((listed.getD n false=false/\∃ x,a'=mk x/\Below w0.heap.size w0 W/\(∀ d,d ∉ D->x d=a.tmps.getD d undef)/\∀ i,i<n->listed.getD i false=true->φ i (x (D.getD i 0)) W) \/
   (listed.getD n false=true/\listed.getD (n+1) false=false/\wpOp P ops Q (n+1) (fun a'' W''=>Q .normal a'' W'') a' W) \/
   (listed.getD (n+1) false=true/\Q .normal a' W))) ?_ ?_ ?_
 ·have hz:∀ i,(Array.replicate ops.size false).getD i false=false:=fun i=>by
   by_cases hi:i<ops.size <;> simp[Array.getD_eq_getD_getElem?,hi]
  refine⟨⟨by simp,fun j o _ hj=>?_⟩,.inl ⟨hz n,_,ha,(Below.refl _ _).drew,fun d _=>rfl,fun i hi h=>?_⟩⟩
  ·rw[hz] at hj;cases hj
  ·rw[hz] at h;cases h
 ·rintro listed a' W i hi ⟨⟨hs,hc⟩,hJ⟩
  obtain⟨h1,h2,o,ho,hpre⟩:=Lm hi
  rw[b9u (by omega)] at h2
  have hc':∀ j o,ops[j]?=some o->(listed.setIfInBounds i true).getD j false=true->∀ e∈o.after,Region.binds .any e=true->(listed.setIfInBounds i true).getD e.on false=true:=by
   intro j o' hj hl e hem heb
   have h3:listed.getD e.on false=true:=by
    by_cases ej:i=j
    ·subst ej
     rw[ho] at hj
     cases hj
     exact hpre e hem heb
    ·rw[Xl ej] at hl
     exact hc j o' hj hl e hem heb
   by_cases ee:i=e.on
   ·rw[<- ee];exact a1q (by omega)
   ·rw[Xl ee];exact h3
  have hs':(listed.setIfInBounds i true).size=ops.size:=by simpa using hs
  rcases hJ with ⟨hl,x,rfl,hb,hout,hφ⟩|⟨hl,hl1,hw⟩|⟨hl1,hw⟩
  ·have hl1:=wait listed hc n (n+1) (by omega) he2 hl
   by_cases hin:i<n
   ·refine wpOp_mono ?_ (step i hin x W hb hout fun k hkn hk=>?_)
    ·rintro a'' W' ⟨v,rfl,hv,hb'⟩
     refine⟨⟨hs',hc'⟩,.inl ⟨by rw[Xl (by omega)];exact hl,_,rfl,hb.trans (hb'.mono hb.size),fun d hd=>?_,fun j hj hlj=>?_⟩⟩
     ·have:d≠D.getD i 0:=by
       rintro rfl
       refine hd ?_
       rw[List.getD_eq_getElem?_getD,List.getElem?_eq_getElem (by omega)]
       exact List.getElem_mem _
      simp only[a2c,if_neg this]
      exact hout d hd
     ·by_cases e:j=i
      ·subst e
       simp only[a2c,if_pos]
       exact hv
      ·have hne:D.getD j 0≠D.getD i 0:=by
        rw[List.getD_eq_getElem?_getD,List.getD_eq_getElem?_getD,List.getElem?_eq_getElem (by omega),List.getElem?_eq_getElem (by omega)]
        simp only[Option.getD_some]
        intro hh
        exact e ((List.getElem_inj hN).1 hh)
       simp only[a2c,if_neg hne]
       rw[Xl (fun h=>e h.symm)] at hlj
       exact mono _ _ _ _ (hφ j hj hlj) hb'
    ·rw[ho] at hk
     simp only[Option.map_some,Option.getD_some] at hk
     rw[Array.any_eq_true'] at hk
     obtain⟨e,hem,hek⟩:=hk
     rw[Bool.and_eq_true] at hek
     have hon:e.on=k:=by simpa using hek.1
     have hlk:=hpre e hem hek.2
     rw[hon] at hlk
     exact hφ k hkn hlk
   ·by_cases hin2:i=n
    ·subst hin2
     have hall:∀ k,k<i->listed.getD k false=true:=fun k hk=>by
      cases hlk:listed.getD k false with
      | true=>rfl
      | false=>exact absurd hi (wn listed hc _ k (Nat.le_refl _) hk hlk).2
     refine wpOp_mono ?_ (fin x W hb hout fun k hk=>hφ k hk (hall k hk))
     intro a'' W' hw
     exact⟨⟨hs',hc'⟩,.inr (.inl ⟨a1q (by omega),by rw[Xl (by omega)];exact hl1.1,hw⟩)⟩
    ·have:i=n+1:=by omega
     subst this
     exact absurd hi hl1.2
  ·have:i=n+1:=by
    by_cases hin:i<n
    ·have:=(wn listed hc _ i (Nat.le_refl _) hin h2).1
     rw[hl] at this
     cases this
    ·by_cases hin2:i=n
     ·subst hin2
      rw[hl] at h2
      cases h2
     ·omega
   subst this
   refine wpOp_mono ?_ hw
   intro a'' W' hq
   exact⟨⟨hs',hc'⟩,.inr (.inr ⟨a1q (by omega),hq⟩)⟩
  ·exfalso
   have hl:listed.getD n false=true:=by
    cases hl:listed.getD n false with
    | true=>rfl
    | false =>
     have:=(wait listed hc n (n+1) (by omega) he2 hl).1
     rw[hl1] at this
     cases this
   by_cases hin:i<n
   ·have:=(wn listed hc _ i (Nat.le_refl _) hin h2).1
    rw[hl] at this
    cases this
   ·by_cases hin2:i=n
    ·subst hin2
     rw[hl] at h2
     cases h2
    ·have:i=n+1:=by omega
     subst this
     rw[hl1] at h2
     cases h2
 ·rintro listed a' W hr ⟨⟨hs,hc⟩,hJ⟩
  have all:=Ul hr hs hA
  rcases hJ with ⟨hl,-⟩|⟨-,hl,-⟩|⟨-,hw⟩
  ·rw[all (n+1) n (by omega) (by omega)] at hl;cases hl
  ·rw[all (n+2) (n+1) (by omega) (by omega)] at hl;cases hl
  ·exact hw
end
section
open Go.ChangeShapes Go.WideShapes Go.ChangeAt Go.RowKit Go.Joins Go.Deep Go.Maps
section
variable {lo a b:Nat} {w w':World} {B1 B2 B3 B4 g:Nat} {v1 v2 v4:Value} {said:List Int} {pl:List (Pst × Option Addr × Nat)} {beg:List Nat} {Z:List (Nat × Array Value)}
theorem Cs.tellW(h:Cs lo a b w B1 B2 B3 B4 g v1 v2 v4 said pl beg Z)(hz:b<=w.heap.size){w1:World}{v':Value}{q:Pst × Option Addr × Nat}(hq:Gg w lo q.2.1 q.2.2 q.1.keys)(hqx:∀ ad,q.2.1=some ad->Out a b ad.block)(hg:w.grownBy w1 v4.ownBlock)(ho:w1.ownsRow lo 78 13 v' (pl.length+1) (a6l pl++q.1.enc q.2.1 q.2.2))(hl:v'.ownBlock=v4.ownBlock\/v'.ownBlock=some w.heap.size) :
  Cs lo a b (w1.setCell ⟨B4,0,none⟩ v') B1 B2 B3 B4 g v1 v2 v' said (pl ++ [q]) beg Z/\∀ k,a<=k->k<b->(w1.setCell ⟨B4,0,none⟩ v').heap[k]?=w.heap[k]?:=by
 have hk1:∀ k,k<w.heap.size->v4.ownBlock≠some k->w1.heap[k]?=w.heap[k]?:=fun k hk hn=>by
  exact hg.block k hk (fun e=>hn e.symm)
 have hk:∀ k,k<w.heap.size->v4.ownBlock≠some k->k≠B4->(w1.setCell ⟨B4,0,none⟩ v').heap[k]?=w.heap[k]?:=fun k hk hn hB=>by
  rw[Below.heap_setCell _ _ _ _ (by dsimp only;exact hB)]
  exact hk1 k hk hn
 have s1:w1.heap[B4]?=some (.cells #[v4] 69 (0,0)):=(hk1 B4 (lt_of_block h.p) (own_ne h.po h.p (by decide))).trans h.p
 have nb:∀ {X:Nat} {cs:Array Value} {t:TypeId},w.heap[X]?=some (.cells cs t (0,0))->t≠78->t≠69->(w1.setCell ⟨B4,0,none⟩ v').heap[X]?=some (.cells cs t (0,0)):=fun hX n1 n2=>by
  refine(hk _ (lt_of_block hX) (own_ne h.po hX (Ne.symm n1)) ?_).trans hX
  rintro rfl
  rw[h.p] at hX
  injection hX with hX
  injection hX with _ hX
  exact n2 hX.symm
 have nr:∀ {lo' size n:Nat} {t:TypeId} {u:Value} {xs:List Value},w.ownsRow lo' t size u n xs->t≠78->t≠69->(w1.setCell ⟨B4,0,none⟩ v').ownsRow lo' t size u n xs:=fun hu n1 n2=>by
  refine Dx hu fun k hu'=>hk k (hu.lt k hu').2 (fun hv=>I5 h.po hu (Ne.symm n1) k hv hu') ?_
  rintro rfl
  exact own_ne hu h.p n2 hu'
 refine⟨⟨nb h.s (by decide) (by decide),nr h.so (by decide) (by decide),h.sx,nb h.f (by decide) (by decide),nb h.fo (by decide) (by decide),h.fx,?_,?_,?_,?_,h.o1,h.o3,h.o4,h.og,nb h.x (by decide) (by decide),h.ox,fun q hq=>nb (h.z q hq) (by decide) (by decide)⟩,?_⟩
 ·have:=block_setCell (i:=0) s1 v'
  rw[this];rfl
 ·have:=Ny (j:=0) (x:=v') ho (own_ne ho s1 (by decide))
  rwa [show a6l pl++q.1.enc q.2.1 q.2.2=a6l (pl ++ [q]) by simp[a6l],show pl.length+1=(pl ++ [q]).length by simp] at this
 ·intro k hk'
  rcases hl with hl|hl
  ·exact h.px k (hl ▸ hk')
  ·rw[hl] at hk'
   injection hk' with hk'
   intro hx
   have:=hx.2
   omega
 ·intro q' hq'
  rcases List.mem_append.1 hq' with hq'|hq'
  ·exact⟨⟨nr (h.pk q' hq').1.own (by decide) (by decide)⟩,(h.pk q' hq').2⟩
  ·rw[List.mem_singleton] at hq'
   subst hq'
   exact⟨⟨nr hq.own (by decide) (by decide)⟩,hqx⟩
 ·intro k h1 h2
  exact hk k (by omega) (fun e=>h.px k e ⟨h1,h2⟩) (fun e=>h.o4.2 (e ▸ ⟨h1,h2⟩))
end
theorem Qa{P:Program}{ops:Array Oper}{Q:Exit->Act->World->Prop}{i:Nat}{o:Oper}{a:Act}{w w':World}{K:Act->World->Prop}(hi:ops[i]?=some o)(hw:Region.wanted o (yielded ops a.tmps)=true)
  (hr:(execOp a.eval o).run P w=.ok .skip w') (h:K (a.put o.dst undef) w'):wpOp P ops Q i K a w:=by
 refine wpOp_step hi fun K' hK=>?_
 rw[if_pos hw]
 unfold Oper.wp
 rw[hr]
 exact hK _ _ h
def O1(x:Nat->Value):Act:=⟨#[x 0,x 1,x 2,x 3,x 4,x 5,x 6,x 7,x 8,x 9,x 10,x 11,x 12,x 13,x 14,x 15,x 16,x 17,x 18,x 19,x 20,x 21,x 22,x 23,x 24,x 25,x 26,x 27,x 28,x 29,x 30,x 31,x 32,x 33,x 34,x 35,x 36,x 37,x 38,x 39,x 40,x 41,x 42,x 43,x 44,x 45,x 46,x 47,x 48,x 49,x 50,x 51,x 52,x 53,x 54,x 55,x 56],[]⟩
def Hg(X B g tk i:Nat)(v4 gs:Value)(f:Fr)(aK:Option Addr)(cK:Nat):Nat->Value
 | 0=>v4
 | 1=>.pointer (some ⟨X+1,1,none⟩)
 | 2=>.agg #[O J f.c.kind,O J f.c.a,O J f.c.b,O J f.c.time,O J f.c.bk,O J f.c.slot,O J f.pl,O J f.cur,O J f.prev,O J f.slot,O J f.n,Y aK f.keys.length cK,.bool f.done,O J f.e]
 | 3=>.pointer (some ⟨X,0,none⟩)
 | 4=>O J tk
 | 5=>gs
 | 6=>.pointer (some ⟨X,0,none⟩)
 | 7=>O J tk
 | 8=>.pointer (some ⟨g,tk,none⟩)
 | 9=>O J B
 | _=>O J i
def b6f(X B g tk i:Nat)(v4 gs:Value)(f:Fr)(aK:Option Addr)(cK base:Nat)(n:Nat)(v:Value)(W:World):Prop :=
 (n≠11->n≠12->v=Hg X B g tk i v4 gs f aK cK n) /\
 (n=11->∃ a2 c2,v=.agg #[O J tk,O J f.c.kind,O J f.c.a,O J f.c.b,O J f.c.time,O J f.c.bk,O J f.c.slot,O J B,O J i,O J f.e,O J f.slot,O J f.n,Y a2 f.keys.length c2]/\Gg W base a2 c2 f.keys) /\
 (n=12->∃ a2 c2 p,v=Y (some ⟨p,0,none⟩) 1 1/\W.heap[p]?=some (.cells #[O J tk,O J f.c.kind,O J f.c.a,O J f.c.b,O J f.c.time,O J f.c.bk,O J f.c.slot,O J B,O J i,O J f.e,O J f.slot,O J f.n,Y a2 f.keys.length c2] 78 (0,0))/\Gg W base a2 c2 f.keys)
theorem a8a{X B g tk i:Nat}{v4 gs:Value}{f:Fr}{aK:Option Addr}{cK base:Nat}:∀ n v w w',b6f X B g tk i v4 gs f aK cK base n v w->Below w.heap.size w w'->b6f X B g tk i v4 gs f aK cK base n v w':=by
 rintro n v w w' ⟨h1,h2,h3⟩ hb
 refine⟨h1,fun h=>?_,fun h=>?_⟩
 ·obtain⟨a,k,e,r⟩:=h2 h
  exact⟨a,k,e,r.below hb⟩
 ·obtain⟨a,k,p,e,r,s⟩:=h3 h
  exact⟨a,k,p,e,(hb.block _ (lt_of_block r)).trans r,s.below hb⟩
theorem He{X B g tk i:Nat}{v4 gs:Value}{f:Fr}{aK:Option Addr}{cK base n:Nat}{W:World}(h1:n≠11)(h2:n≠12):b6f X B g tk i v4 gs f aK cK base n (Hg X B g tk i v4 gs f aK cK n) W:=⟨fun _ _=>rfl,fun h=>(h1 h).elim,fun h=>(h2 h).elim⟩
theorem Ql{w:World}{p:Nat}{vs:List Value}{t:TypeId}(h:w.heap[p]?=some (.cells vs.toArray t (0,0))):∀ j u,vs[j]?=some u->w.cell? ((⟨p,0,none⟩:Addr).add j)=some u:=by
 intro j u hj
 rw[show ((⟨p,0,none⟩:Addr).add j)=⟨p,j,none⟩ by simp[Addr.add];omega,cell_of_block h]
 simpa using hj
set_option maxHeartbeats 4000000 in
theorem b1i(lo a b:Nat)(w:World)(B1 B2 B3 B4 g:Nat)(aP:Option Addr)(cP:Nat)(l:List Pk)(v1 v4:Value)(said:List Int)(pl:List (Pst × Option Addr × Nat))(beg:List Nat)(Z:List (Nat × Array Value))(W:Wd)(v:Value)(i:Nat)(E:Int)
  (h:Cs lo a b w B1 B2 B3 B4 g v1 (Y aP l.length cP) v4 said pl beg Z) (hz:b<=w.heap.size) (hr:Na w aP cP l) (hrl:∀ ad,aP=some ad->ad.block<lo) (hi:i<l.length) (hs:said.length<=300) (hps:pl.length<=300) (hW:WIn a b w v W) (hE:E=0) (hT:(l[i]'hi).tick=false) (hS:(l[i]'hi).step=true) (hk:0<=(l[i]'hi).Bc/\(l[i]'hi).Bc<W.ts.length) (hB:(W.ts.getD (l[i]'hi).Bc.toNat idle).busy=false) (hbl:beg.length=W.ts.length) :
  Calls Tryz.prog 80 #[O J i,v,O J E,.pointer (some ⟨B1,0,none⟩),.pointer (some ⟨B2,0,none⟩),.pointer (some ⟨B3,0,none⟩),.pointer (some ⟨B4,0,none⟩)] w (a5p lo a b w B1 B2 B3 B4 g (Y aP l.length cP) (said ++ [E]) ((pl.map (·.1)) ++ [b1s i (l[i]'hi) (beg.getD (l[i]'hi).Bc.toNat 0) (W.ts.getD (l[i]'hi).Bc.toNat idle)]) beg Z):=by
 obtain⟨aS,aH,aF,aL,cS,cH,cF,cL,aT,cT,lt,rfl,-⟩:=hW w (fun _ _ _=>rfl)
 subst hE
 have hk0:(l[i]'hi).Bc.toNat<W.ts.length:=by omega
 obtain⟨-,-,hcT,pT,qT,rfl,-⟩:=Y0 (hW w fun _ _ _=>rfl) hk0
 clear hk0
 have b0:Below w.heap.size w (w.alloc (.cells #[Y aS W.m.slots.length cS,Y aH W.m.heads.length cH,Y aF W.m.free.length cF,Y aL W.m.locks.length cL,O J W.m.now,Y (some ⟨pT,qT,none⟩) W.ts.length cT] 28)):=Ad _ _
 have HC0:Hid (Cs lo a b (w.alloc (.cells #[Y aS W.m.slots.length cS,Y aH W.m.heads.length cH,Y aF W.m.free.length cF,Y aL W.m.locks.length cL,O J W.m.now,Y (some ⟨pT,qT,none⟩) W.ts.length cT] 28)) B1 B2 B3 B4 g v1 (Y aP l.length cP) v4 said pl beg Z):=h.below b0
 have HY0:Hid ((w.alloc (.cells #[Y aS W.m.slots.length cS,Y aH W.m.heads.length cH,Y aF W.m.free.length cF,Y aL W.m.locks.length cL,O J W.m.now,Y (some ⟨pT,qT,none⟩) W.ts.length cT] 28)).heap[w.heap.size]?=some (.cells #[Y aS W.m.slots.length cS,Y aH W.m.heads.length cH,Y aF W.m.free.length cF,Y aL W.m.locks.length cL,O J W.m.now,Y (some ⟨pT,qT,none⟩) W.ts.length cT] 28 (0,0))):=heap_alloc_new _ _
 have Hlz:Hid (lo<=w.heap.size):=by have:=h.o1.1;have:=lt_of_block h.s;show _<=_;omega
 have HW0:Hid (WIn a b w (.agg #[Y aS W.m.slots.length cS,Y aH W.m.heads.length cH,Y aF W.m.free.length cF,Y aL W.m.locks.length cL,O J W.m.now,Y (some ⟨pT,qT,none⟩) W.ts.length cT]) W):=hW
 have Hz:Hid (b<=w.heap.size):=hz
 rcases hr.at_ with hn|⟨bP,oP,rfl,hx⟩
 ·omega
 have hbl:bP<lo:=hrl _ rfl
 have Hrx:Hid (w.rangeAt bP (oP+i*9) [O J (l[i]).Bc,.bool (l[i]).step,.bool (l[i]).tick,O J ((l[i]).c).kind,O J ((l[i]).c).a,O J ((l[i]).c).b,O J ((l[i]).c).time,O J ((l[i]).c).bk,O J ((l[i]).c).slot]):=hx i hi
 have hmax:=hr.max
 have hle:=hr.le
 obtain⟨x,hxe⟩:∃ x,x=l[i]:=⟨_,rfl⟩
 have Hxe:Hid (x=l[i]):=hxe
 rw[<- hxe] at Hrx hT hS hk hB ⊢
 obtain⟨xt,xs,xk,xc⟩:=x
 dsimp only at Hrx hT hS hk hB ⊢
 subst hT hS
 obtain⟨tk,rfl⟩:∃ tk:Nat,xt=tk:=⟨xt.toNat,by omega⟩
 rw[Int.toNat_natCast] at hB ⊢
 have hk2:tk<W.ts.length:=by omega
 have l1w:B1<w.heap.size:=lt_of_block h.s
 obtain⟨t,hte⟩:∃ t,t=W.ts.getD tk idle:=⟨_,rfl⟩
 have Hte:Hid (t=W.ts.getD tk idle):=hte
 rw[<- hte] at hB ⊢
 clear hte
 have HCell:Hid (∀ j u,[Value.int .i64 0][j]?=some u->(((w.alloc (.cells #[Y aS W.m.slots.length cS,Y aH W.m.heads.length cH,Y aF W.m.free.length cF,Y aL W.m.locks.length cL,O J W.m.now,Y (some ⟨pT,qT,none⟩) W.ts.length cT] 28))).alloc (.cells #[O J 0] 36)).cell? ((⟨w.heap.size+1,0,none⟩:Addr).add j)=some u):=fun j u hu=>by
  have h1:=cell_one_new (w.alloc (.cells #[Y aS W.m.slots.length cS,Y aH W.m.heads.length cH,Y aF W.m.free.length cF,Y aL W.m.locks.length cL,O J W.m.now,Y (some ⟨pT,qT,none⟩) W.ts.length cT] 28)) (O J 0) 36 j u hu
  rwa [show (w.alloc (.cells #[Y aS W.m.slots.length cS,Y aH W.m.heads.length cH,Y aF W.m.free.length cF,Y aL W.m.locks.length cL,O J W.m.now,Y (some ⟨pT,qT,none⟩) W.ts.length cT] 28)).heap.size=w.heap.size+1 by simp] at h1
 obtain⟨i0,hi0,hq0,hq1,hq2⟩:=info_parts iE
 obtain⟨a1,k1,rfl⟩:=D9 HC0.out.so
 have HO:Hid ((w.alloc (.cells #[Y aS W.m.slots.length cS,Y aH W.m.heads.length cH,Y aF W.m.free.length cF,Y aL W.m.locks.length cL,O J W.m.now,Y (some ⟨pT,qT,none⟩) W.ts.length cT] 28)).ownsRow lo 36 1 (Y a1 said.length k1) said.length (encI said)):=HC0.out.so
 have HBw:Hid (∀ (w2:World) (o:Obj) (v':Value),((w.alloc (.cells #[Y aS W.m.slots.length cS,Y aH W.m.heads.length cH,Y aF W.m.free.length cF,Y aL W.m.locks.length cL,O J W.m.now,Y (some ⟨pT,qT,none⟩) W.ts.length cT] 28)).alloc o).grownBy w2 (Value.slice a1 said.length k1).ownBlock->Below lo w (w2.setCell ⟨B1,0,none⟩ v')):=fun w2 o v' hg=>Iz ((Below.mono (Ad w _) Hlz.out)) hg (fun k hk=>(HO.out.lt k hk).1) (by have:=Hlz.out;simp;omega) HC0.out.o1.1
 obtain⟨c1,f1,l1⟩:=Aq HC0.out.s
 clear h hW hr b0 hrl hx hz hxe
 go_enter Tryz.func80,Tryz.ntmps80
 go_wp2_with (first|(at_builtin;go_loud (refine wpList_append_own_at _ rfl (.tmp 12) (.tmp 14) 68 rfl lo 36 i0 (O J 0) 1 8 Tryz.underlying68 hi0 hq0 hq1 hq2 rfl (by decide) _ _ _ rfl (HO.out.alloc _) ⟨w.heap.size+1,0,none⟩ 1 1 [O J 0] rfl rfl HCell.out (by intro u hu;simp at hu;subst hu;rfl) (by unfold maxLen;omega) (by omega) (by have:=Hlz.out;simp;omega) ?_;intro v2 w2 ho2 hg2 _ hloc2;obtain⟨g2,cap2,rfl⟩:=ownsRow_form ho2 (by omega);have HC1:Hid _:=Cs.say HC0.out (by have:=Hz.out;simp;omega) hg2 ho2 hloc2;obtain⟨d1,e1,lB2⟩:=Aq (F6 HC0.out.s hg2 (own_ne HO.out HC0.out.s (by decide)));have HB1:Hid _:=HBw.out _ _ (Y (some ⟨g2,0,none⟩) (said.length+1) cap2) hg2;obtain⟨d2,e2,lB3⟩:=Aq HC1.out.1.x;have Hrx1:Hid _:=Fq Hrx.out HB1.out hbl;have HZ2:Hid _:=F6 HY0.out hg2 (own_ne HO.out HY0.out (by decide));have hz2:=lt_of_block HZ2.out;have HZ3:Hid ((World.heap (World.alloc (World.setCell w2 ⟨B1,0,none⟩ (Y (some ⟨g2,0,none⟩) (said.length+1) cap2)) (.cells #[O J tk,.bool true,.bool false,O J xc.kind,O J xc.a,O J xc.b,O J xc.time,O J xc.bk,O J xc.slot] 34)))[w.heap.size]?=some (.cells #[Y aS W.m.slots.length cS,Y aH W.m.heads.length cH,Y aF W.m.free.length cF,Y aL W.m.locks.length cL,O J W.m.now,Y (some ⟨pT,qT,none⟩) W.ts.length cT] 28 (0,0))):=((Ad _ _).block _ (by first|(simp;done)|(simp;omega)|(have:=HB1.out.size;omega))).trans ((Below.heap_setCell _ _ _ _ (by dsimp only;omega)).trans HZ2.out);obtain⟨z0,z1,z2,z3,z4,z5,zs⟩:=Ew HZ3.out;have HWn:Hid _:=HW0.out (World.alloc (World.setCell w2 ⟨B1,0,none⟩ (Y (some ⟨g2,0,none⟩) (said.length+1) cap2)) (.cells #[O J tk,.bool true,.bool false,O J xc.kind,O J xc.a,O J xc.b,O J xc.time,O J xc.bk,O J xc.slot] 34)) (fun k h1 h2=>((Ad _ _).block k (by have:=HB1.out.size;have:=Hz.out;omega)).trans ((HC1.out.2 k h1 h2).trans ((Ad _ _).block k (by have:=Hz.out;omega))));obtain⟨lt2,hts2,ht2,p2,q2,hpT,Hrt⟩:=Y0 HWn.out hk2;cases hpT;rw[<- Hte.out] at Hrt hts2;clear c1 f1 l1 ho2 hg2 hloc2 HC0 HO HBw))|refine a2e (x0:=⟨(tk:Int),true,false,xc⟩) rfl _ rfl rfl Hrx1.out ?_|refine a9m rfl _ rfl rfl Hrt.out ?_)
 have HT0:=heap_alloc_new (World.alloc (World.setCell w2 ⟨B1,0,none⟩ (Y (some ⟨g2,0,none⟩) (said.length+1) cap2)) (.cells #[O J tk,.bool true,.bool false,O J xc.kind,O J xc.a,O J xc.b,O J xc.time,O J xc.bk,O J xc.slot] 34)) (.cells #[.bool false,O J t.f.c.kind,O J t.f.c.a,O J t.f.c.b,O J t.f.c.time,O J t.f.c.bk,O J t.f.c.slot,O J t.f.pl,O J t.f.cur,O J t.f.prev,O J t.f.slot,O J t.f.n,Y lt2.aK t.f.keys.length lt2.cK,.bool t.f.done,O J t.f.e,Y lt2.aH t.held.length lt2.cH] 49)
 rw[show (World.alloc (World.setCell w2 ⟨B1,0,none⟩ (Y (some ⟨g2,0,none⟩) (said.length+1) cap2)) (.cells #[O J tk,.bool true,.bool false,O J xc.kind,O J xc.a,O J xc.b,O J xc.time,O J xc.bk,O J xc.slot] 34)).heap.size=w2.heap.size+1 by simp] at HT0
 have HT3:Hid ((World.alloc (World.alloc (World.setCell w2 ⟨B1,0,none⟩ (Y (some ⟨g2,0,none⟩) (said.length+1) cap2)) (.cells #[O J tk,.bool true,.bool false,O J xc.kind,O J xc.a,O J xc.b,O J xc.time,O J xc.bk,O J xc.slot] 34)) (.cells #[.bool false,O J t.f.c.kind,O J t.f.c.a,O J t.f.c.b,O J t.f.c.time,O J t.f.c.bk,O J t.f.c.slot,O J t.f.pl,O J t.f.cur,O J t.f.prev,O J t.f.slot,O J t.f.n,Y lt2.aK t.f.keys.length lt2.cK,.bool t.f.done,O J t.f.e,Y lt2.aH t.held.length lt2.cH] 49)).heap[w2.heap.size+1]?=some (.cells #[.bool false,O J t.f.c.kind,O J t.f.c.a,O J t.f.c.b,O J t.f.c.time,O J t.f.c.bk,O J t.f.c.slot,O J t.f.pl,O J t.f.cur,O J t.f.prev,O J t.f.slot,O J t.f.n,Y lt2.aK t.f.keys.length lt2.cK,.bool t.f.done,O J t.f.e,Y lt2.aH t.held.length lt2.cH] 49 (0,0))):=HT0
 have HX0:=heap_alloc_new (World.setCell w2 ⟨B1,0,none⟩ (Y (some ⟨g2,0,none⟩) (said.length+1) cap2)) (.cells #[O J tk,.bool true,.bool false,O J xc.kind,O J xc.a,O J xc.b,O J xc.time,O J xc.bk,O J xc.slot] 34)
 rw[show (World.setCell w2 ⟨B1,0,none⟩ (Y (some ⟨g2,0,none⟩) (said.length+1) cap2)).heap.size=w2.heap.size by simp] at HX0
 have HX3:Hid ((World.alloc (World.alloc (World.setCell w2 ⟨B1,0,none⟩ (Y (some ⟨g2,0,none⟩) (said.length+1) cap2)) (.cells #[O J tk,.bool true,.bool false,O J xc.kind,O J xc.a,O J xc.b,O J xc.time,O J xc.bk,O J xc.slot] 34)) (.cells #[.bool false,O J t.f.c.kind,O J t.f.c.a,O J t.f.c.b,O J t.f.c.time,O J t.f.c.bk,O J t.f.c.slot,O J t.f.pl,O J t.f.cur,O J t.f.prev,O J t.f.slot,O J t.f.n,Y lt2.aK t.f.keys.length lt2.cK,.bool t.f.done,O J t.f.e,Y lt2.aH t.held.length lt2.cH] 49)).heap[w2.heap.size]?=some (.cells #[O J tk,.bool true,.bool false,O J xc.kind,O J xc.a,O J xc.b,O J xc.time,O J xc.bk,O J xc.slot] 34 (0,0))):=((Ad _ _).block _ (lt_of_block HX0)).trans HX0
 have HC3:Hid (Cs lo a b (World.alloc (World.alloc (World.setCell w2 ⟨B1,0,none⟩ (Y (some ⟨g2,0,none⟩) (said.length+1) cap2)) (.cells #[O J tk,.bool true,.bool false,O J xc.kind,O J xc.a,O J xc.b,O J xc.time,O J xc.bk,O J xc.slot] 34)) (.cells #[.bool false,O J t.f.c.kind,O J t.f.c.a,O J t.f.c.b,O J t.f.c.time,O J t.f.c.bk,O J t.f.c.slot,O J t.f.pl,O J t.f.cur,O J t.f.prev,O J t.f.slot,O J t.f.n,Y lt2.aK t.f.keys.length lt2.cK,.bool t.f.done,O J t.f.e,Y lt2.aH t.held.length lt2.cH] 49)) B1 B2 B3 B4 g (Y (some ⟨g2,0,none⟩) (said.length+1) cap2) (Y (some ⟨bP,oP,none⟩) l.length cP) v4 (said ++ [0]) pl beg Z):=(HC1.out.1.below (Ad _ _)).below (Ad _ _)
 have HK3:Hid (Ag (World.alloc (World.alloc (World.setCell w2 ⟨B1,0,none⟩ (Y (some ⟨g2,0,none⟩) (said.length+1) cap2)) (.cells #[O J tk,.bool true,.bool false,O J xc.kind,O J xc.a,O J xc.b,O J xc.time,O J xc.bk,O J xc.slot] 34)) (.cells #[.bool false,O J t.f.c.kind,O J t.f.c.a,O J t.f.c.b,O J t.f.c.time,O J t.f.c.bk,O J t.f.c.slot,O J t.f.pl,O J t.f.cur,O J t.f.prev,O J t.f.slot,O J t.f.n,Y lt2.aK t.f.keys.length lt2.cK,.bool t.f.done,O J t.f.e,Y lt2.aH t.held.length lt2.cH] 49)) lt2.aK lt2.cK t.f.keys):=hts2.out.below (Ad _ _)
 have hq:∀ o:Obj,Below lo w (World.alloc _ o):=fun o=>HB1.out.alloc (by have:=HB1.out.size;have:=Hlz.out;omega) o
 have HBl3:Hid (Below lo w (World.alloc (World.alloc (World.setCell w2 ⟨B1,0,none⟩ (Y (some ⟨g2,0,none⟩) (said.length+1) cap2)) (.cells #[O J tk,.bool true,.bool false,O J xc.kind,O J xc.a,O J xc.b,O J xc.time,O J xc.bk,O J xc.slot] 34)) (.cells #[.bool false,O J t.f.c.kind,O J t.f.c.a,O J t.f.c.b,O J t.f.c.time,O J t.f.c.bk,O J t.f.c.slot,O J t.f.pl,O J t.f.cur,O J t.f.prev,O J t.f.slot,O J t.f.n,Y lt2.aK t.f.keys.length lt2.cK,.bool t.f.done,O J t.f.e,Y lt2.aH t.held.length lt2.cH] 49))):=(hq _).alloc (by have:=(hq (.cells #[O J tk,.bool true,.bool false,O J xc.kind,O J xc.a,O J xc.b,O J xc.time,O J xc.bk,O J xc.slot] 34)).size;have:=Hlz.out;omega) _
 have Hwin3:Hid (∀ k,a<=k->k<b->(World.alloc (World.alloc (World.setCell w2 ⟨B1,0,none⟩ (Y (some ⟨g2,0,none⟩) (said.length+1) cap2)) (.cells #[O J tk,.bool true,.bool false,O J xc.kind,O J xc.a,O J xc.b,O J xc.time,O J xc.bk,O J xc.slot] 34)) (.cells #[.bool false,O J t.f.c.kind,O J t.f.c.a,O J t.f.c.b,O J t.f.c.time,O J t.f.c.bk,O J t.f.c.slot,O J t.f.pl,O J t.f.cur,O J t.f.prev,O J t.f.slot,O J t.f.n,Y lt2.aK t.f.keys.length lt2.cK,.bool t.f.done,O J t.f.e,Y lt2.aH t.held.length lt2.cH] 49)).heap[k]?=w.heap[k]?):=fun k h1 h2=>((Ad _ _).block k (by have:=HB1.out.size;have:=Hz.out;simp at *;omega)).trans (((Ad _ _).block k (by have:=HB1.out.size;have:=Hz.out;omega)).trans ((HC1.out.2 k h1 h2).trans ((Ad _ _).block k (by have:=Hz.out;omega))))
 clear HT0 HX0 hq HC1 Hrt Hrx1 HWn HZ3 HZ2 z0 z1 z2 z3 z4 z5 zs hts2 d1 e1 d2 e2 lB2 lB3 HB1
 clear HCell HY0 HW0
 generalize World.alloc (World.alloc (World.setCell w2 ⟨B1,0,none⟩ (Y (some ⟨g2,0,none⟩) (said.length+1) cap2)) (.cells #[O J tk,.bool true,.bool false,O J xc.kind,O J xc.a,O J xc.b,O J xc.time,O J xc.bk,O J xc.slot] 34)) (.cells #[.bool false,O J t.f.c.kind,O J t.f.c.a,O J t.f.c.b,O J t.f.c.time,O J t.f.c.bk,O J t.f.c.slot,O J t.f.pl,O J t.f.cur,O J t.f.prev,O J t.f.slot,O J t.f.n,Y lt2.aK t.f.keys.length lt2.cK,.bool t.f.done,O J t.f.e,Y lt2.aH t.held.length lt2.cH] 49)=W3 at *
 generalize w2.heap.size=X at *
 obtain⟨t0,t1,t2,t3,t4,t5,t6,t7,t8,t9,t10,t11,t12,t13,t14,t15,ts⟩:=b3d HT3.out
 have x0:W3.cell? ⟨X,0,none⟩=some (O J tk):=by rw[cell_of_block HX3.out];rfl
 have d3:=(Aq HC3.out.f).1
 have d4:=(Aq HC3.out.p).1
 have htb:tk<beg.length:=by omega
 have d5:=Cs.fat HC3.out htb
 obtain⟨a4,k4,rfl⟩:=D9 HC3.out.po
 obtain⟨j0,hj0,hr0,hr1,hr2⟩:=info_parts iP
 have HTo:Hid (∀ V:World,Below W3.heap.size W3 V->Calls Tryz.prog 81 #[.agg #[O J t.f.c.kind,O J t.f.c.a,O J t.f.c.b,O J t.f.c.time,O J t.f.c.bk,O J t.f.c.slot,O J t.f.pl,O J t.f.cur,O J t.f.prev,O J t.f.slot,O J t.f.n,Y lt2.aK t.f.keys.length lt2.cK,.bool t.f.done,O J t.f.e],O J tk,O J (beg.getD tk 0:Nat),O J i] V (b7m V t.f tk (beg.getD tk 0:Nat) i)):=fun V hb=>b3i t.f tk _ _ lt2.aK lt2.cK V (HK3.out.below hb)
 clear t15 t0
 refine Y1 (by kernel_rfl) O1 rfl [43,44,45,46,47,48,49,50,51,52,53,54,55] (by decide) 13 rfl rfl (by kernel_rfl) (by kernel_rfl) (by kernel_rfl) (b6f X (beg.getD tk 0) g tk i (Y a4 pl.length k4) (Y (some ⟨g,0,none⟩) beg.length beg.length) t.f lt2.aK lt2.cK W3.heap.size) a8a ?_ ?_
 ·intro k hk' x W hb hout hpre
  have HCw:=HC3.out.below hb
  have HTw:=(hb.block _ (lt_of_block HT3.out)).trans HT3.out
  have HXw:=(hb.block _ (lt_of_block HX3.out)).trans HX3.out
  have x0':x 0=O J i:=hout 0 (by decide)
  have x5:x 5=.pointer (some ⟨B3,0,none⟩):=hout 5 (by decide)
  have x6:x 6=.pointer (some ⟨B4,0,none⟩):=hout 6 (by decide)
  have x10:x 10=.pointer (some ⟨X,0,none⟩):=hout 10 (by decide)
  have x11:x 11=.pointer (some ⟨X+1,0,none⟩):=hout 11 (by decide)
  have q4:=(Aq HCw.p).1
  have q3:=(Aq HCw.f).1
  have q5:=Cs.fat HCw htb
  have qx:W.cell? ⟨X,0,none⟩=some (O J tk):=by rw[cell_of_block HXw];rfl
  obtain⟨u0,u1,u2,u3,u4,u5,u6,u7,u8,u9,u10,u11,u12,u13,u14,u15,us⟩:=b3d HTw
  obtain rfl|rfl|rfl|rfl|rfl|rfl|rfl|rfl|rfl|rfl|rfl|rfl|rfl:k=0\/k=1\/k=2\/k=3\/k=4\/k=5\/k=6\/k=7\/k=8\/k=9\/k=10\/k=11\/k=12:=by omega
  ·exact Dy rfl (C9 rfl) (v:=Hg X (beg.getD tk 0) g tk i (Y a4 pl.length k4) (Y (some ⟨g,0,none⟩) beg.length beg.length) t.f lt2.aK lt2.cK 0) (w':=W) (by simp[execOp,go_sem,Hg,(show (O1 x).tmps[6]?.getD undef=_ from x6),q4]) ⟨_,rfl,He (by decide) (by decide),Below.refl _ _⟩
  ·exact Dy rfl (C9 rfl) (v:=Hg X (beg.getD tk 0) g tk i (Y a4 pl.length k4) (Y (some ⟨g,0,none⟩) beg.length beg.length) t.f lt2.aK lt2.cK 1) (w':=W) (by simp[execOp,go_sem,Hg,(show (O1 x).tmps[11]?.getD undef=_ from x11),Addr.add]) ⟨_,rfl,He (by decide) (by decide),Below.refl _ _⟩
  ·have p1:=(hpre 1 (by omega) (by kernel_rfl)).1 (by decide) (by decide);simp only[Hg,List.getD_cons_zero,List.getD_cons_succ] at p1;exact Dy rfl (C9 rfl) (v:=Hg X (beg.getD tk 0) g tk i (Y a4 pl.length k4) (Y (some ⟨g,0,none⟩) beg.length beg.length) t.f lt2.aK lt2.cK 2) (w':=W) (by simp[execOp,go_sem,Hg,(show (O1 x).tmps[44]?.getD undef=_ from p1),u1,u2,u3,u4,u5,u6,u7,u8,u9,u10,u11,u12,u13,u14]) ⟨_,rfl,He (by decide) (by decide),Below.refl _ _⟩
  ·exact Dy rfl (C9 rfl) (v:=Hg X (beg.getD tk 0) g tk i (Y a4 pl.length k4) (Y (some ⟨g,0,none⟩) beg.length beg.length) t.f lt2.aK lt2.cK 3) (w':=W) (by simp[execOp,go_sem,Hg,(show (O1 x).tmps[10]?.getD undef=_ from x10),Addr.add]) ⟨_,rfl,He (by decide) (by decide),Below.refl _ _⟩
  ·have p3:=(hpre 3 (by omega) (by kernel_rfl)).1 (by decide) (by decide);simp only[Hg,List.getD_cons_zero,List.getD_cons_succ] at p3;exact Dy rfl (C9 rfl) (v:=Hg X (beg.getD tk 0) g tk i (Y a4 pl.length k4) (Y (some ⟨g,0,none⟩) beg.length beg.length) t.f lt2.aK lt2.cK 4) (w':=W) (by simp[execOp,go_sem,Hg,(show (O1 x).tmps[46]?.getD undef=_ from p3),qx]) ⟨_,rfl,He (by decide) (by decide),Below.refl _ _⟩
  ·exact Dy rfl (C9 rfl) (v:=Hg X (beg.getD tk 0) g tk i (Y a4 pl.length k4) (Y (some ⟨g,0,none⟩) beg.length beg.length) t.f lt2.aK lt2.cK 5) (w':=W) (by simp[execOp,go_sem,Hg,(show (O1 x).tmps[5]?.getD undef=_ from x5),q3]) ⟨_,rfl,He (by decide) (by decide),Below.refl _ _⟩
  ·exact Dy rfl (C9 rfl) (v:=Hg X (beg.getD tk 0) g tk i (Y a4 pl.length k4) (Y (some ⟨g,0,none⟩) beg.length beg.length) t.f lt2.aK lt2.cK 6) (w':=W) (by simp[execOp,go_sem,Hg,(show (O1 x).tmps[10]?.getD undef=_ from x10),Addr.add]) ⟨_,rfl,He (by decide) (by decide),Below.refl _ _⟩
  ·have p6:=(hpre 6 (by omega) (by kernel_rfl)).1 (by decide) (by decide);simp only[Hg,List.getD_cons_zero,List.getD_cons_succ] at p6;exact Dy rfl (C9 rfl) (v:=Hg X (beg.getD tk 0) g tk i (Y a4 pl.length k4) (Y (some ⟨g,0,none⟩) beg.length beg.length) t.f lt2.aK lt2.cK 7) (w':=W) (by simp[execOp,go_sem,Hg,(show (O1 x).tmps[49]?.getD undef=_ from p6),qx]) ⟨_,rfl,He (by decide) (by decide),Below.refl _ _⟩
  ·have p5:=(hpre 5 (by omega) (by kernel_rfl)).1 (by decide) (by decide);simp only[Hg,List.getD_cons_zero,List.getD_cons_succ] at p5;have p7:=(hpre 7 (by omega) (by kernel_rfl)).1 (by decide) (by decide);simp only[Hg,List.getD_cons_zero,List.getD_cons_succ] at p7;exact Dy rfl (C9 rfl) (v:=Hg X (beg.getD tk 0) g tk i (Y a4 pl.length k4) (Y (some ⟨g,0,none⟩) beg.length beg.length) t.f lt2.aK lt2.cK 8) (w':=W) (by simp[execOp,go_sem,Hg,(show (O1 x).tmps[48]?.getD undef=_ from p5),(show (O1 x).tmps[50]?.getD undef=_ from p7),htb,Addr.add];omega) ⟨_,rfl,He (by decide) (by decide),Below.refl _ _⟩
  ·have p8:=(hpre 8 (by omega) (by kernel_rfl)).1 (by decide) (by decide);simp only[Hg,List.getD_cons_zero,List.getD_cons_succ] at p8;exact Dy rfl (C9 rfl) (v:=Hg X (beg.getD tk 0) g tk i (Y a4 pl.length k4) (Y (some ⟨g,0,none⟩) beg.length beg.length) t.f lt2.aK lt2.cK 9) (w':=W) (by simp[execOp,go_sem,Hg,(show (O1 x).tmps[51]?.getD undef=_ from p8),q5]) ⟨_,rfl,He (by decide) (by decide),Below.refl _ _⟩
  ·exact Dy rfl (C9 rfl) (v:=Hg X (beg.getD tk 0) g tk i (Y a4 pl.length k4) (Y (some ⟨g,0,none⟩) beg.length beg.length) t.f lt2.aK lt2.cK 10) (w':=W) (by simp[execOp,go_sem,Hg,(show (O1 x).tmps[0]?.getD undef=_ from x0')]) ⟨_,rfl,He (by decide) (by decide),Below.refl _ _⟩
  ·have p2:=(hpre 2 (by omega) (by kernel_rfl)).1 (by decide) (by decide);simp only[Hg,List.getD_cons_zero,List.getD_cons_succ] at p2;have p4:=(hpre 4 (by omega) (by kernel_rfl)).1 (by decide) (by decide);simp only[Hg,List.getD_cons_zero,List.getD_cons_succ] at p4;have p9:=(hpre 9 (by omega) (by kernel_rfl)).1 (by decide) (by decide);simp only[Hg,List.getD_cons_zero,List.getD_cons_succ] at p9;have p10:=(hpre 10 (by omega) (by kernel_rfl)).1 (by decide) (by decide);simp only[Hg,List.getD_cons_zero,List.getD_cons_succ] at p10; 
   refine a4o rfl (C9 rfl) (f:=81) (args:=#[.agg #[O J t.f.c.kind,O J t.f.c.a,O J t.f.c.b,O J t.f.c.time,O J t.f.c.bk,O J t.f.c.slot,O J t.f.pl,O J t.f.cur,O J t.f.prev,O J t.f.slot,O J t.f.n,Y lt2.aK t.f.keys.length lt2.cK,.bool t.f.done,O J t.f.e],O J tk,O J (beg.getD tk 0:Nat),O J i]) (by simp[execOp,go_sem,(show (O1 x).tmps[45]?.getD undef=_ from p2),(show (O1 x).tmps[47]?.getD undef=_ from p4),(show (O1 x).tmps[52]?.getD undef=_ from p9),(show (O1 x).tmps[53]?.getD undef=_ from p10)]) ((HTo.out W hb).mono ?_)
   rintro e w4 ⟨a2,c2,rfl,ho4,hb4⟩
   exact⟨_,rfl,_,rfl,⟨fun h=>(h rfl).elim,fun _=>⟨a2,c2,rfl,ho4.le hb.size⟩,fun h=>absurd h (by decide)⟩,hb4⟩
  ·obtain⟨a2,c2,e11,hko⟩:=(hpre 11 (by omega) (by kernel_rfl)).2.1 rfl
   simp only[List.getD_cons_zero,List.getD_cons_succ] at e11
   refine Dy rfl (C9 rfl) (v:=Y (some ⟨W.heap.size,0,none⟩) 1 1) (w':=W.alloc (.cells #[O J tk,O J t.f.c.kind,O J t.f.c.a,O J t.f.c.b,O J t.f.c.time,O J t.f.c.bk,O J t.f.c.slot,O J (beg.getD tk 0:Nat),O J i,O J t.f.e,O J t.f.slot,O J t.f.n,Y a2 t.f.keys.length c2] 78)) (by simp[execOp,go_sem,(show (O1 x).tmps[54]?.getD undef=_ from e11)]) ⟨_,rfl,⟨fun _ h=>(h rfl).elim,fun h=>absurd h (by decide),fun _=>⟨a2,c2,W.heap.size,rfl,heap_alloc_new _ _,hko.below (Ad _ _)⟩⟩,Ad _ _⟩
 ·intro x W hb hout hφ
  have HCw:Hid _:=HC3.out.below hb
  have x6:x 6=.pointer (some ⟨B4,0,none⟩):=hout 6 (by decide)
  have p0:=(hφ 0 (by omega)).1 (by decide) (by decide)
  obtain⟨a2,c2,p,e12,hbk,hko⟩:=(hφ 12 (by omega)).2.2 rfl
  simp only[Hg,List.getD_cons_zero,List.getD_cons_succ] at p0 e12
  refine wpOp_step rfl fun K' hK=>?_
  refine I8 W rfl (.tmp 43) (.tmp 55) 69 rfl lo 78 j0 (.agg #[O J 0,O J 0,O J 0,O J 0,O J 0,O J 0,O J 0,O J 0,O J 0,O J 0,O J 0,O J 0,Y none 0 0]) 13 120 Tryz.underlying69 hj0 hr0 hr1 hr2 rfl (by decide) (Y a4 pl.length k4) _ _ (show x 43=_ from p0) HCw.out.po ⟨p,0,none⟩ 1 1 [O J tk,O J t.f.c.kind,O J t.f.c.a,O J t.f.c.b,O J t.f.c.time,O J t.f.c.bk,O J t.f.c.slot,O J (beg.getD tk 0:Nat),O J i,O J t.f.e,O J t.f.slot,O J t.f.n,Y a2 t.f.keys.length c2] (show x 55=_ from e12) rfl (Ql hbk) (by intro u hu;simp only[List.mem_cons,List.not_mem_nil,or_false] at hu;rcases hu with rfl|rfl|rfl|rfl|rfl|rfl|rfl|rfl|rfl|rfl|rfl|rfl|rfl <;> rfl) (by unfold maxLen;omega) (by omega) (by have:=Hlz.out;have:=HBl3.out.size;have:=hb.size;omega) ?_
  intro v5 w5 ho5 hg5 _ hloc5
  refine hK _ _ ?_
  obtain⟨g5,cap5,rfl⟩:=ownsRow_form ho5 (by omega)
  have HB5:w5.heap[B4]?=_:=(hg5.block _ (lt_of_block HCw.out.p) (fun e=>own_ne HCw.out.po HCw.out.p (by decide) e.symm)).trans HCw.out.p
  obtain⟨n1,n2,n3⟩:=Aq HB5
  have hlz3:lo<=W3.heap.size:=by have:=Hlz.out;have:=HBl3.out.size;omega
  have hbz:b<=W3.heap.size:=by have:=Hz.out;have:=HBl3.out.size;omega
  have HT:=Cs.tellW HCw.out (by have:=hb.size;omega) (v':=Y (some ⟨g5,0,none⟩) (pl.length+1) cap5) (q:=(⟨(tk:Int),t.f.c,beg.getD tk 0,i,t.f.e,t.f.slot,t.f.n,t.f.keys⟩,a2,c2)) (hko.le hlz3) (fun ad e hx=>by have:=(hko.lt ad e).1;have:=hx.2;omega) hg5 ho5 hloc5
  have HBf:Below lo w (w5.setCell ⟨B4,0,none⟩ (Y (some ⟨g5,0,none⟩) (pl.length+1) cap5)):=((HBl3.out.trans (hb.mono hlz3)).grown hg5 (by have:=hb.size;omega) (fun k hk=>(HCw.out.po.lt k hk).1)).setCell HCw.out.o4.1 _
  refine Qa rfl (C9 rfl) (w':=w5.setCell ⟨B4,0,none⟩ (Y (some ⟨g5,0,none⟩) (pl.length+1) cap5)) (by simp[execOp,go_sem,Act.put,O1,x6,n1,n2]) ?_
  refine bodyPost_end (results_none rfl _ _ _) rfl ?_
  refine⟨_,_,_,rfl,HT.1,?_,HBf,fun k h1 h2=>(HT.2 k h1 h2).trans ((hb.block k (by omega)).trans (Hwin3.out k h1 h2))⟩
  rw[List.map_append]
  rfl
end
section
open Go.ChangeShapes Go.WideShapes Go.ChangeAt Go.RowKit Go.Joins Go.Deep Go.Maps
theorem a4y(lo a b:Nat)(w:World)(B1 B2 B3 B4 g:Nat)(aP:Option Addr)(cP:Nat)(l:List Pk)(v1 v4:Value)(said:List Int)(pl:List (Pst × Option Addr × Nat))(beg:List Nat)(Z:List (Nat × Array Value))(W:Wd)(v:Value)(i:Nat)(E:Int)
  (h:Cs lo a b w B1 B2 B3 B4 g v1 (Y aP l.length cP) v4 said pl beg Z) (hz:b<=w.heap.size) (hr:Na w aP cP l) (hrl:∀ ad,aP=some ad->ad.block<lo) (hi:i<l.length) (hs:said.length<=300) (hps:pl.length<=300) (hW:WIn a b w v W)
  (hx:E=0->(l[i]'hi).tick=false->0<=(l[i]'hi).Bc/\(l[i]'hi).Bc<W.ts.length) (hbl:beg.length=W.ts.length) :
  Calls Tryz.prog 80 #[O J i,v,O J E,.pointer (some ⟨B1,0,none⟩),.pointer (some ⟨B2,0,none⟩),.pointer (some ⟨B3,0,none⟩),.pointer (some ⟨B4,0,none⟩)] w (a5p lo a b w B1 B2 B3 B4 g (Y aP l.length cP) (said ++ [E]) (Uy (l[i]'hi) E i beg W (pl.map (·.1))) (Ux (l[i]'hi) E i beg) Z):=by
 by_cases h0:E=0
 rotate_left
 ·have h1:=b5q lo a b w B1 B2 B3 B4 g aP cP l v1 v4 said pl beg Z W v i E h hz hr hrl hi hs hps hW h0
  unfold Uy Ux
  rw[if_pos (.inl h0),if_pos (.inl h0)]
  exact h1
 cases hT:(l[i]'hi).tick
 rotate_left
 ·have h1:=b1j lo a b w B1 B2 B3 B4 g aP cP l v1 v4 said pl beg Z W v i E h hz hr hrl hi hs hps hW h0 hT
  unfold Uy Ux
  rw[if_pos (.inr hT),if_pos (.inr hT)]
  exact h1
 have hk:=hx h0 hT
 have hn:¬ (E≠0\/(l[i]'hi).tick=true):=by rw[hT];simp[h0]
 cases hS:(l[i]'hi).step
 ·have h1:=a7p lo a b w B1 B2 B3 B4 g aP cP l v1 v4 said pl beg Z W v i E h hz hr hrl hi hs hps hW h0 hT hS (by rw[hbl];exact hk)
  unfold Uy Ux
  rw[if_neg hn,if_neg hn,if_neg (by rw[hS];simp),if_neg (by rw[hS];simp)]
  exact h1
 cases hB:(W.ts.getD (l[i]'hi).Bc.toNat idle).busy
 ·have h1:=b1i lo a b w B1 B2 B3 B4 g aP cP l v1 v4 said pl beg Z W v i E h hz hr hrl hi hs hps hW h0 hT hS hk hB hbl
  unfold Uy Ux
  rw[if_neg hn,if_neg hn,if_pos hS,if_pos hS,if_neg (by rw[hB];simp)]
  exact h1
 ·have h1:=b1h lo a b w B1 B2 B3 B4 g aP cP l v1 v4 said pl beg Z W v i E h hz hr hrl hi hs hps hW h0 hT hS hk hB
  unfold Uy Ux
  rw[if_neg hn,if_neg hn,if_pos hS,if_pos hS,if_pos hB]
  exact h1
theorem b2s(n:Nat)(s:Rs)(x:Pk):Pi n s x=⟨Tj s.w x,s.said ++ [doE s.w x],Uy x (doE s.w x) n s.beg (Tj s.w x) s.past,Ux x (doE s.w x) n s.beg⟩:=by
 unfold Pi Tj Uy Ux
 by_cases h:doE s.w x=0
 ·rw[if_pos h,if_pos h,h]
  cases hT:x.tick
  ·cases hS:x.step
   ·simp
   ·simp
    split <;> simp_all
  ·simp
 ·rw[if_neg h,if_neg h,if_pos (.inl h),if_pos (.inl h)]
section
variable {lo a b:Nat} {w w':World} {B1 B2 B3 B4 g:Nat} {v1 v2 v4:Value} {said:List Int} {pl:List (Pst × Option Addr × Nat)} {beg:List Nat} {Z:List (Nat × Array Value)}
theorem Cs.wide(h:Cs lo a b w B1 B2 B3 B4 g v1 v2 v4 said pl beg Z):Cs lo 0 0 w B1 B2 B3 B4 g v1 v2 v4 said pl beg Z :=
 have hz:∀ k,Out 0 0 k:=fun k hx=>by have:=hx.2;omega
 ⟨h.s,h.so,fun k _=>hz k,h.f,h.fo,hz _,h.p,h.po,fun k _=>hz k,fun q hq=>⟨(h.pk q hq).1,fun ad _=>hz _⟩,⟨h.o1.1,hz _⟩,⟨h.o3.1,hz _⟩,⟨h.o4.1,hz _⟩,h.og,h.x,⟨h.ox.1,hz _⟩,h.z⟩
theorem Cs.off(h:Cs lo a b w B1 B2 B3 B4 g v1 v2 v4 said pl beg Z){X:Nat}{c:Array Value}(hX:w.heap[X]?=some (.cells c 28 (0,0)))(hk:∀ k,k≠X->w'.heap[k]?=w.heap[k]?)(hZ:∀ q∈Z,q.1≠X):Cs lo a b w' B1 B2 B3 B4 g v1 v2 v4 said pl beg Z:=by
 have nb:∀ {Yq:Nat} {cs:Array Value} {t':TypeId},w.heap[Yq]?=some (.cells cs t' (0,0))->t'≠28->w'.heap[Yq]?=some (.cells cs t' (0,0)):=fun hY n2=>by
  refine(hk _ ?_).trans hY
  rintro rfl
  rw[hX] at hY
  injection hY with hY
  injection hY with _ hY
  exact n2 hY.symm
 have nr:∀ {lo' size n':Nat} {t':TypeId} {u:Value} {xs:List Value},w.ownsRow lo' t' size u n' xs->t'≠28->w'.ownsRow lo' t' size u n' xs:=fun hu n2=>by
  refine Dx hu fun k hu'=>hk k ?_
  rintro rfl
  exact own_ne hu hX n2 hu'
 exact⟨nb h.s (by decide),nr h.so (by decide),h.sx,nb h.f (by decide),nb h.fo (by decide),h.fx,nb h.p (by decide),nr h.po (by decide),h.px,fun q hq=>⟨⟨nr (h.pk q hq).1.own (by decide)⟩,(h.pk q hq).2⟩,h.o1,h.o3,h.o4,h.og,nb h.x (by decide),h.ox,fun q hq=>(hk _ (hZ q hq)).trans (h.z q hq)⟩
theorem Cs.more(h:Cs lo a b w B1 B2 B3 B4 g v1 v2 v4 said pl beg Z){Z':List (Nat × Array Value)}(hZ:∀ q∈Z',w.heap[q.1]?=some (.cells q.2 28 (0,0))):Cs lo a b w B1 B2 B3 B4 g v1 v2 v4 said pl beg Z' :=
 ⟨h.s,h.so,h.sx,h.f,h.fo,h.fx,h.p,h.po,h.px,h.pk,h.o1,h.o3,h.o4,h.og,h.x,h.ox,hZ⟩
end
theorem THi.le{lo lo':Nat}{ao:Option Addr}{l:List (Tk × TkV)}(h:THi lo ao l)(hl:lo'<=lo):THi lo' ao l:=⟨fun ad e=>Nat.le_trans hl (h.row ad e),fun p hp ad e=>Nat.le_trans hl (h.keys p hp ad e),fun p hp ad e=>Nat.le_trans hl (h.held p hp ad e)⟩
theorem b3m.wans{w:World}{M:Mm}{ts:List Tk}{e:Ending}{w':World}(h:b3m w M ts e w')(m1:M.slots.length*48<=140737488351232)(m2:M.heads.length*8<=140737488351232)(m3:M.free.length*8<=140737488351232)(m4:M.locks.length*8<=140737488351232):∃ v,e=.returned v/\Gh w.heap.size w' v ⟨M,ts⟩/\Below w.heap.size w w':=by
 obtain⟨gS,gH,gF,gL,kS,kH,kF,kL,gg,c,l',lo2,rfl,R,L,T,-,hts,hlo,hb⟩:=h
 refine⟨_,rfl,⟨gS,gH,gF,gL,kS,kH,kF,kL,some ⟨gg,0,none⟩,c,l',?_,R.at m1 m2 m3 m4,R.hi,hts.symm,T.b7g,T.thi.le hlo⟩,hb⟩
 subst hts
 simp only[List.length_map]
def TurnP(lo X:Nat)(w:World)(B1 B2 B3 B4 g:Nat)(v2:Value)(s:Rs)(Z:List (Nat × Array Value))(e:Ending)(w':World):Prop :=
 ∃ v v1 v4 pl,e=.returned v/\Cs lo 0 0 w' B1 B2 B3 B4 g v1 v2 v4 s.said pl s.beg Z/\pl.map (·.1)=s.past/\Gh X w' v s.w/\Below lo w w'
end
end Go.Proofs.YthhgoenomehobaaGreat.mm
