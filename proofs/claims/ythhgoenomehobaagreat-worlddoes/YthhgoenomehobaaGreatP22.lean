/- Parts. -/
import Derived.Test.YthhgoenomehobaaGreatP12
import Derived.Test.YthhgoenomehobaaGreatP09
import Derived.Test.YthhgoenomehobaaGreatP13
import Derived.Test.YthhgoenomehobaaGreatP18
import Derived.Test.YthhgoenomehobaaGreatP06
namespace Go.Proofs.YthhgoenomehobaaGreat.mm
set_option maxRecDepth 100000
set_option linter.unusedVariables false
open Go.Value renaming int → O, slice → Y
open Go.IntKind renaming i64 → J
open Go.Proofs.Tryz renaming prog → Pg
open Go renaming undef → Uz, World → Wq
open Go.ChangeShapes Go.WideShapes Go.ChangeAt Go.RowKit Go.Joins
set_option maxHeartbeats 3200000
section
open Go.Deep Go.Sort
variable {Xb:Ex}
structure Dk(w:Wq)(lo:Nat)(a:Option Addr)(c:Nat)(l:List (Int × Int)):Prop where
 own:w.ownsRow lo 30 2 (Y a l.length c) l.length (F6 l)
theorem a7x(w:Wq)(lo:Nat):Dk w lo none 0 []:=⟨World.ownsRow_nil w lo 30 2⟩
theorem Dk.row{w:Wq}{lo:Nat}{a:Option Addr}{c:Nat}{l:List (Int × Int)}(h:Dk w lo a c l)(hm:l.length<=1000):Am w a c l:=Am.own h.own (by omega)
theorem Dk.le{w:Wq}{lo lo':Nat}{a:Option Addr}{c:Nat}{l:List (Int × Int)}(h:Dk w lo a c l)(hl:lo'<=lo):Dk w lo' a c l:=⟨ownsRow_le h.own hl⟩
theorem Dk.lt{w:Wq}{lo:Nat}{a:Option Addr}{c:Nat}{l:List (Int × Int)}(h:Dk w lo a c l):∀ ad,a=some ad->lo<=ad.block/\ad.block<w.heap.size:=by
 rintro ad rfl
 rcases h.own.2 with ⟨hv,-⟩|⟨g,cap,cur,hv,hg,hb,-⟩
 ·cases hv
 ·injection hv with h1 _ _
  injection h1 with h1
  subst h1
  exact⟨hg,lt_of_block hb⟩
theorem Dk.same{w w':Wq}{lo:Nat}{a:Option Addr}{c:Nat}{l:List (Int × Int)}(h:Dk w lo a c l)(hk:∀ ad,a=some ad->w'.heap[ad.block]?=w.heap[ad.block]?):Dk w' lo a c l :=
 ⟨Bj h.own fun g hg=>by
  cases a with
  | none=>cases hg
  | some ad=>cases hg;exact hk ad rfl⟩
theorem Dk.fine{w w':Wq}{lo:Nat}{Z:Nat->Prop}{a:Option Addr}{c:Nat}{l:List (Int × Int)}(h:Dk w lo a c l)(hf:Fine w w' Z)(hz:∀ ad,a=some ad->¬ Z ad.block):Dk w' lo a c l :=
 h.same fun ad e=>hf.block _ (h.lt ad e).2 (hz ad e)
theorem Dk.below{w w':Wq}{lo:Nat}{a:Option Addr}{c:Nat}{l:List (Int × Int)}(h:Dk w lo a c l)(hb:Below w.heap.size w w'):Dk w' lo a c l :=
 h.same fun ad e=>hb.block _ (h.lt ad e).2
theorem Dk.foot{w:Wq}{lo lo' B:Nat}{aS aH aF aL:Option Addr}{cS cH cF cL:Nat}{M:Mm}{a:Option Addr}{c:Nat}{l:List (Int × Int)}(h:Dk w lo a c l)(m:Mine Xb w B lo' aS aH aF aL cS cH cF cL M):∀ ad,a=some ad->¬ Ac B aS aH aF aL ad.block:=by
 rintro ad rfl hk
 have hne:∀ {lo2 size n c2:Nat} {e:TypeId} {a2:Option Addr} {xs:List Value},w.ownsRow lo2 e size (Y a2 n c2) n xs->30≠e->∀ ad2,a2=some ad2->ad2.block≠ad.block:=by
  rintro lo2 size n c2 e a2 xs h2 ne ad2 rfl heq
  exact Cf h.own h2 ne ad.block rfl (by show some ad2.block=_;rw[heq])
 rcases hk with hB|⟨ad2,e,hb⟩|⟨ad2,e,hb⟩|⟨ad2,e,hb⟩|⟨ad2,e,hb⟩
 ·exact own_ne h.own m.box (by first|decide|exact Ex.ne _ _ (by decide)) (by show some ad.block=_;rw[hB])
 ·exact hne m.c.s (by first|decide|exact Ex.ne _ _ (by decide)) ad2 e hb
 ·exact hne m.c.h (by first|decide|exact Ex.ne _ _ (by decide)) ad2 e hb
 ·exact hne m.c.f (by first|decide|exact Ex.ne _ _ (by decide)) ad2 e hb
 ·exact hne m.c.l (by first|decide|exact Ex.ne _ _ (by decide)) ad2 e hb
theorem Dk.box{w:Wq}{lo X:Nat}{a:Option Addr}{c:Nat}{l:List (Int × Int)}{cs:Array Value}(h:Dk w lo a c l)(hX:w.heap[X]?=some (.cells cs 47 (0,0))):∀ ad,a=some ad->ad.block≠X:=by
 rintro ad rfl hb
 exact own_ne h.own hX (by first|decide|exact Ex.ne _ _ (by decide)) (by show some ad.block=_;rw[hb])
theorem Sv(ao:Option Addr)(cap:Nat)(l:List (Int × Int))(w:Wq)(r:Am w ao cap l) :
  Calls Pg 104 #[Y ao l.length cap] w fun e w'=>∃ a c,e=.returned (Y a l.length c)/\Dk w' w.heap.size a c l/\Below w.heap.size w w':=by
 cases ao with
 | some ad =>
  refine(Vh ad cap l w r).mono ?_
  rintro e w' ⟨rfl,h1,h2⟩
  exact⟨_,_,rfl,⟨h1⟩,h2⟩
 | none =>
  have hc:=r.nil rfl
  have hl:l=[]:=List.eq_nil_of_length_eq_zero (by have:=r.le;omega)
  subst hc hl
  refine(Vg w).mono ?_
  rintro e w' ⟨rfl,rfl⟩
  exact⟨_,_,rfl,a7x _ _,Below.refl _ _⟩
theorem Dk.D7{w1:Wq}{n:Nat}{a:Option Addr}{c:Nat}{l:List (Int × Int)}(h:Dk w1 (n+2) a c l){v0 v1 v2 v3 v4 v5 v6 v7 v8 v9 v10 v11 v12 v13:Value}:Dk ((((((((((((((w1.setCell ⟨n+1,0,none⟩ v0).setCell ⟨n+1,1,none⟩ v1).setCell ⟨n+1,2,none⟩ v2).setCell ⟨n+1,3,none⟩ v3).setCell ⟨n+1,4,none⟩ v4).setCell ⟨n+1,5,none⟩ v5).setCell ⟨n+1,6,none⟩ v6).setCell ⟨n+1,7,none⟩ v7).setCell ⟨n+1,8,none⟩ v8).setCell ⟨n+1,9,none⟩ v9).setCell ⟨n+1,10,none⟩ v10).setCell ⟨n+1,11,none⟩ v11).setCell ⟨n+1,12,none⟩ v12).setCell ⟨n+1,13,none⟩ v13) n a c l :=
 (h.same fun ad e=>by
  have:=(h.lt ad e).1
  repeat rw[Below.heap_setCell _ _ _ _ (by dsimp only;omega)]).le (by omega)
def a0k(w w':Wq)(e:Ending)(g:Fr):Prop:=∃ a c,e=.returned (.agg #[O J g.c.kind,O J g.c.a,O J g.c.b,O J g.c.time,O J g.c.bk,O J g.c.slot,O J g.pl,O J g.cur,O J g.prev,O J g.slot,O J g.n,Y a g.keys.length c,.bool g.done,O J g.e])/\Dk w' w.heap.size a c g.keys
def a0l(w w':Wq)(e:Ending)(g:Fr)(aK:Option Addr)(cK:Nat)(l:List (Int × Int)):Prop:=(e=.returned (.agg #[O J g.c.kind,O J g.c.a,O J g.c.b,O J g.c.time,O J g.c.bk,O J g.c.slot,O J g.pl,O J g.cur,O J g.prev,O J g.slot,O J g.n,Y aK g.keys.length cK,.bool g.done,O J g.e])/\g.keys=l/\Am w' aK cK g.keys)\/a0k w w' e g
theorem Ret.s{w w':Wq}{e:Ending}{g:Fr}{aK:Option Addr}{cK:Nat}{l:List (Int × Int)}(h:Ret w w' e g aK cK)(hd:g.done=false)(hl:g.keys=l):a0l w w' e g aK cK l:=by
 obtain⟨a,c,h1,h2,-,h4⟩:=h
 obtain⟨rfl,rfl⟩:=h4 hd
 exact .inl ⟨h1,hl,h2⟩
theorem a0l.three{w w':Wq}{e:Ending}{g:Fr}{aK:Option Addr}{cK:Nat}{l:List (Int × Int)}(h:a0l w w' e g aK cK l)(hk:g.keys.length<=1000):∃ a c,e=.returned (.agg #[O J g.c.kind,O J g.c.a,O J g.c.b,O J g.c.time,O J g.c.bk,O J g.c.slot,O J g.pl,O J g.cur,O J g.prev,O J g.slot,O J g.n,Y a g.keys.length c,.bool g.done,O J g.e])/\Am w' a c g.keys/\(∀ ad,a=some ad->aK=some ad\/w.heap.size<=ad.block):=by
 rcases h with ⟨h1,-,h2⟩|⟨a,c,h1,h2⟩
 ·exact⟨aK,cK,h1,h2,fun _ h=>.inl h⟩
 ·exact⟨a,c,h1,h2.row hk,fun ad h=>.inr (h2.lt ad h).1⟩
theorem a0l.own{w w':Wq}{e:Ending}{g:Fr}{aK:Option Addr}{cK:Nat}{l:List (Int × Int)}(h:a0l w w' e g aK cK l)(hk:Dk w' 0 aK cK l):∃ a c,e=.returned (.agg #[O J g.c.kind,O J g.c.a,O J g.c.b,O J g.c.time,O J g.c.bk,O J g.c.slot,O J g.pl,O J g.cur,O J g.prev,O J g.slot,O J g.n,Y a g.keys.length c,.bool g.done,O J g.e])/\Dk w' 0 a c g.keys:=by
 rcases h with ⟨h1,h2,-⟩|⟨a,c,h1,h2⟩
 ·exact⟨aK,cK,h1,h2 ▸ hk⟩
 ·exact⟨a,c,h1,h2.le (Nat.zero_le _)⟩
theorem Rz(f:Fr)(e0:Int)(aK:Option Addr)(cK:Nat)(w:Wq)(r:Am w aK cK f.keys) :
  Calls Pg 199 #[.agg #[O J f.c.kind,O J f.c.a,O J f.c.b,O J f.c.time,O J f.c.bk,O J f.c.slot,O J f.pl,O J f.cur,O J f.prev,O J f.slot,O J f.n,Y aK f.keys.length cK,.bool f.done,O J f.e],O J e0] w fun e w'=>∃ a c,e=.returned (.agg #[O J (Ag f e0).c.kind,O J (Ag f e0).c.a,O J (Ag f e0).c.b,O J (Ag f e0).c.time,O J (Ag f e0).c.bk,O J (Ag f e0).c.slot,O J (Ag f e0).pl,O J (Ag f e0).cur,O J (Ag f e0).prev,O J (Ag f e0).slot,O J (Ag f e0).n,Y a (Ag f e0).keys.length c,.bool (Ag f e0).done,O J (Ag f e0).e])/\Dk w' w.heap.size a c f.keys/\Below w.heap.size w w':=by
 obtain⟨of,hof⟩:=frObj f aK cK
 obtain⟨oz,hoz⟩:∃ o:Obj,o=.cells #[O J 0,O J 0,O J 0,O J 0,O J 0,O J 0,O J 0,O J 0,O J 0,O J 0,O J 0,Y none 0 0,.bool false,O J 0] 47:=⟨_,rfl⟩
 have HE0:Hid (Env w ((w.alloc of).alloc oz) _ []):=((⟨Below.refl _ _,(fun p hp=>by cases hp),(fun p hp=>by cases hp)⟩:Env w w [] []).alloc of).alloc oz
 rw[show (w.alloc of).heap.size=w.heap.size+1 by simp] at HE0
 have HR:Hid (Am w aK cK f.keys):=r
 clear r
 go_enter Tryz.func199,Tryz.ntmps199
 go_wp2_with fail
 rw[<- hof,<- hoz]
 generalize (w.alloc of).alloc oz=W0 at *
 subst hof hoz
 refine(Sv aK cK f.keys W0 (HR.out.below HE0.out.bl)).mono ?_
 rintro e w1 ⟨a1,c1,rfl,hr1,hb1⟩
 have HE1:Hid _:=HE0.out.below hb1
 have HR1:Hid (Dk w1 (w.heap.size+2) a1 c1 f.keys):=hr1.le (HE0.out.lt (.head _))
 clear HE0 hb1 hr1
 have hbz:=HE1.out.box _ (.head _)
 have hbf:=HE1.out.box _ (.tail _ (.head _))
 obtain⟨f0,f1,f2,f3,f4,f5,f6,f7,f8,f9,f10,f11,f12,f13,ff,fs⟩:=A8 hbf
 obtain⟨g0,g1,g2,g3,g4,g5,g6,g7,g8,g9,g10,g11,g12,g13,gf,gs⟩:=A8 hbz
 have hne:w.heap.size+1≠w.heap.size:=by omega
 have HBl:Hid (Below w.heap.size w w1):=HE1.out.bl
 clear hbz hbf HE1
 go_wp2
 refine bodyPost_ret (v:=.agg #[O J (Ag f e0).c.kind,O J (Ag f e0).c.a,O J (Ag f e0).c.b,O J (Ag f e0).c.time,O J (Ag f e0).c.bk,O J (Ag f e0).c.slot,O J (Ag f e0).pl,O J (Ag f e0).cur,O J (Ag f e0).prev,O J (Ag f e0).slot,O J (Ag f e0).n,Y a1 (Ag f e0).keys.length c1,.bool (Ag f e0).done,O J (Ag f e0).e]) (by simp[results,Tryz.results199,go_sem,Ag,g0,g1,g2,g3,g4,g5,g6,g7,g8,g9,g10,g11,g12,g13]) rfl ⟨a1,c1,rfl,(HR1.out.same (fun ad hk=>?_)).le (by omega),?_⟩
 ·have:=(HR1.out.lt ad hk).1
  repeat rw[Below.heap_setCell _ _ _ _ (by dsimp only;omega)]
 ·iterate 17 (refine Below.setCell ?_ (by dsimp only;omega) _)
  exact HBl.out
end
section
theorem Ef.src{w:Wq}{ao:Option Addr}{cap:Nat}{l:List (Tk × TkV)}(r:Ef w ao cap l):∀ ad,ao=some ad->∀ j u,(Ep l)[j]?=some u->w.cell? (ad.add j)=some u:=by
 rintro ad rfl j u hj
 have hlt:j<l.length*16:=by
  have:=(List.getElem?_eq_some_iff.1 hj).1
  rwa [Jg] at this
 rcases r.at_ with h0|⟨b,o,e,hc⟩
 ·omega
 injection e with e
 subst e
 have hi:j / 16<l.length:=by omega
 have e1:j=j / 16*16+j % 16:=by omega
 rw[Addr.add_mid,show o+j=o+j / 16*16+j % 16 by omega,hc _ hi _ (by omega),<- Ho hi (by omega),<- e1]
 exact hj
theorem a7j(l:List (Tk × TkV)):∀ v∈Ep l,v.oneCell'=true:=by
 intro v hv
 obtain⟨p,-,h⟩:=List.mem_flatMap.1 hv
 simp only[Tk.enc,Fr.enc,List.cons_append,List.nil_append,List.mem_cons,List.not_mem_nil,or_false] at h
 rcases h with rfl|rfl|rfl|rfl|rfl|rfl|rfl|rfl|rfl|rfl|rfl|rfl|rfl|rfl|rfl|rfl <;> rfl
theorem iT:(Pg.info? 49).map (fun i=>(i.zero,i.size,i.bytes))=some (some (.agg #[.bool false,O J 0,O J 0,O J 0,O J 0,O J 0,O J 0,O J 0,O J 0,O J 0,O J 0,O J 0,Y none 0 0,.bool false,O J 0,Y none 0 0]),16,160):=by kernel_rfl
theorem a1f(ad:Addr)(cap:Nat)(l:List (Tk × TkV))(w:Wq)(r:Ef w (some ad) cap l) :
  Calls Pg 102 #[Y (some ad) l.length cap] w fun e w'=>e=.returned (Y (some ⟨w.heap.size,0,none⟩) l.length l.length)/\w'.ownsRow w.heap.size 49 16 (Y (some ⟨w.heap.size,0,none⟩) l.length l.length) l.length (Ep l)/\Below w.heap.size w w':=by
 obtain⟨i0,hi,hz0,hz1,hz2⟩:=info_parts iT
 have m1:=r.max
 have m2:=r.le
 have HS:Hid _:=r.src
 have HN:Hid _:=r.nil
 clear r
 have q27:∀ (w:Wq) (a:Option Addr) (n c:Nat),(binOp .eql 26 (Y a n c) (Y none 0 0)).run Pg w=.ok (.bool a.isNone) w:=fun w a n c=>Lib.run_eql_slice_nil w _ _ a n c 0 0 Tryz.underlying26
 go_enter Tryz.func102,Tryz.ntmps102
 go_wp2_with (first
  | (at_make;refine wpList_make_own _ rfl _ _ 26 rfl w.heap.size 49 i0 (.agg #[.bool false,O J 0,O J 0,O J 0,O J 0,O J 0,O J 0,O J 0,O J 0,O J 0,O J 0,O J 0,Y none 0 0,.bool false,O J 0,Y none 0 0]) 16 Tryz.underlying26 hi hz0 hz1 .i64 .i64 _ l.length rfl rfl rfl (by rw[hz2];omega) (by unfold maxLen;omega) (Nat.le_refl _) ?_;intro w1 hown hgrow)
  | (at_builtin;refine wpList_append_fits_any _ rfl _ _ 26 rfl w.heap.size 49 i0 16 Tryz.underlying26 hi hz1 w.heap.size 0 l.length _ rfl hown (some ad) l.length cap (Ep l) rfl (Jg l) (fun h=>by have:=HN.out h;omega) (fun ad h j u hj=>hgrow.cell (HS.out ad h j u hj) (by intro hh;cases hh)) (a7j l) (by omega) ?_;intro w2 hown2 hgrow2))
 go_ret
 simp only[Nat.zero_add,List.nil_append] at hown2
 refine⟨by simp,hown2,?_⟩
 have:=((Below.refl w.heap.size w).grown hgrow (Nat.le_refl _) (fun k h=>by cases h))
 exact this.grown hgrow2 hgrow.size (fun k h=>by cases h;exact Nat.le_refl _)
structure Oy(w:Wq)(lo g cT:Nat)(l:List (Tk × TkV))(k:Nat):Prop where
 row:w.ownsRow lo 49 16 (Y (some ⟨g,0,none⟩) l.length cT) l.length (Ep l)
 held:∀ j (h:j<l.length),j<k->w.ownsRow lo 3 1 (Y l[j].2.aH l[j].1.held.length l[j].2.cH) l[j].1.held.length (encI l[j].1.held)
 keys:∀ j (h:j<l.length),j<k->Dk w lo l[j].2.aK l[j].2.cK l[j].1.f.keys
 dj:∀ i j (hi:i<l.length) (hj:j<l.length),i<k->j<k->i≠j->∀ a b,l[i].2.aH=some a->l[j].2.aH=some b->a.block≠b.block
theorem Oy.step{w w':Wq}{lo g cT k:Nat}{l:List (Tk × TkV)}(P:Oy w lo g cT l k)(hk:k<l.length)(aK' aH':Option Addr)(cK' cH':Nat)(hlo:lo<=w.heap.size)
  (row:w'.ownsRow lo 49 16 (Y (some ⟨g,0,none⟩) l.length cT) l.length (Ep (l.set k (l[k].1,⟨aK',cK',aH',cH'⟩))))
  (hh:w'.ownsRow w.heap.size 3 1 (Y aH' l[k].1.held.length cH') l[k].1.held.length (encI l[k].1.held)) (hK:Dk w' w.heap.size aK' cK' l[k].1.f.keys)
  (hs:∀ j,j<w.heap.size->j≠g->w'.heap[j]?=w.heap[j]?):Oy w' lo g cT (l.set k (l[k].1,⟨aK',cK',aH',cH'⟩)) (k+1):=by
 have hlen:(l.set k (l[k].1,(⟨aK',cK',aH',cH'⟩:TkV))).length=l.length:=List.length_set
 have hgb:w.heap[g]? ≠ none/\∃ cur,w.heap[g]?=some (.cells cur 49 (0,0)):=by
  obtain⟨cur,hc⟩:=a1i P.row rfl
  exact⟨by rw[hc];simp,cur,hc⟩
 obtain⟨-,cur,hcur⟩:=hgb
 refine⟨by rw[hlen];exact row,fun j hj hjk=>?_,fun j hj hjk=>?_,fun i j hi hj hik hjk hne a b ha hb=>?_⟩
 ·rcases Hw hk hj with ⟨rfl,e⟩|⟨hne,h,e⟩
  ·rw[e];exact ownsRow_le hh hlo
  ·rw[e]
   have h1:=P.held j h (by omega)
   exact Bj h1 fun m hm=>hs m (h1.lt m hm).2 (fun he=>own_ne h1 hcur (by decide) (by rw[hm,he]))
 ·rcases Hw hk hj with ⟨rfl,e⟩|⟨hne,h,e⟩
  ·rw[e];exact hK.le hlo
  ·rw[e]
   have h1:=P.keys j h (by omega)
   refine h1.same fun ad ha=>hs _ (h1.lt ad ha).2 (fun he=>own_ne h1.own hcur (by decide) ?_)
   rw[ha];exact congrArg some he
 ·have hnew:∀ {j} (h:j<l.length),j<k->∀ x y,aH'=some x->l[j].2.aH=some y->x.block≠y.block:=fun {j} h hjk x y hx hy=>by
   have h1:=P.held j h hjk
   rw[hy] at h1
   rw[hx] at hh
   have:=(h1.lt y.block rfl).2
   have:=(hh.lt x.block rfl).1
   omega
  rcases Hw hk hi with ⟨rfl,e⟩|⟨n1,h1,e⟩
  ·rw[e] at ha
   rcases Hw hk hj with ⟨rfl,e'⟩|⟨n2,h2,e'⟩
   ·exact absurd rfl hne
   ·rw[e'] at hb;exact hnew h2 (by omega) a b ha hb
  ·rw[e] at ha
   rcases Hw hk hj with ⟨rfl,e'⟩|⟨n2,h2,e'⟩
   ·rw[e'] at hb;exact(hnew h1 (by omega) b a hb ha).symm
   ·rw[e'] at hb;exact P.dj i j h1 h2 (by omega) (by omega) hne a b ha hb
theorem Oy.own{w:Wq}{lo g cT k:Nat}{l:List (Tk × TkV)}(P:Oy w lo g cT l k)(hk:l.length<=k)(few:l.length<=5)(hm:∀ p∈l,p.1.held.length<=1000)(km:∀ p∈l,p.1.f.keys.length*16<=140737488351232):Bo w lo g cT l:=by
 have hH:∀ p∈l,w.ownsRow lo 3 1 (Y p.2.aH p.1.held.length p.2.cH) p.1.held.length (encI p.1.held):=fun p hp=>by
  obtain⟨j,hj,rfl⟩:=List.getElem_of_mem hp
  exact P.held j hj (by omega)
 have hK:∀ p∈l,Dk w lo p.2.aK p.2.cK p.1.f.keys:=fun p hp=>by
  obtain⟨j,hj,rfl⟩:=List.getElem_of_mem hp
  exact P.keys j hj (by omega)
 refine⟨P.row,few,hm,hH,fun i j hi hj hne=>P.dj i j hi hj (by omega) (by omega) hne,fun p hp=>Am.own (hK p hp).own (km p hp),fun p hp a ha=>((hK p hp).lt a ha).1,fun p hp _ a ha e=>?_,fun p hp _ q hq a b ha hb e=>?_⟩
 ·have h1:=(hK p hp).own
  rw[ha] at h1
  exact Cf h1 P.row (by decide) a.block rfl (by rw[e];rfl)
 ·have h1:=(hK p hp).own
  have h2:=hH q hq
  rw[ha] at h1;rw[hb] at h2
  exact Cf h1 h2 (by decide) a.block rfl (by rw[e];rfl)
theorem b2g{l:List (Tk × TkV)}{k:Nat}(hk:k<l.length)(v:TkV):(l.set k (l[k].1,v)).map (·.1)=l.map (·.1):=by
 apply List.ext_getElem?
 intro j
 by_cases e:j=k
 ·subst e;simp[hk]
 ·rw[List.map_set,List.getElem?_set_ne (fun h=>e h.symm)]
end
section
@[reducible] def Xw (aT:Option Addr) (n cT:Nat):Ex:=⟨[Y aT n cT],28,by decide⟩
def LoM(n:Nat)(aS aH aF aL:Option Addr):Prop:=∀ ad,aS=some ad\/aH=some ad\/aF=some ad\/aL=some ad->ad.block<n
theorem Rw.lom{w:Wq}{lo:Nat}{aS aH aF aL:Option Addr}{cS cH cF cL:Nat}{M:Mm}(r:Rw w lo aS aH aF aL cS cH cF cL M):LoM w.heap.size aS aH aF aL:=by
 rintro ad (rfl|rfl|rfl|rfl)
 ·exact(r.s.lt ad.block rfl).2
 ·exact(r.h.lt ad.block rfl).2
 ·exact(r.f.lt ad.block rfl).2
 ·exact(r.l.lt ad.block rfl).2
theorem Rw.Yd{w:Wq}{lo B:Nat}{aS aH aF aL:Option Addr}{cS cH cF cL:Nat}{M:Mm}{cs:Array Value}(r:Rw w lo aS aH aF aL cS cH cF cL M)(hB:w.heap[B]?=some (.cells cs 28 (0,0)))(j:Nat)(v:Value):Rw (w.setCell ⟨B,j,none⟩ v) lo aS aH aF aL cS cH cF cL M :=
 ⟨E8 r.s hB (by decide) _,E8 r.h hB (by decide) _,E8 r.f hB (by decide) _,E8 r.l hB (by decide) _,r.hf,r.hl,r.fl,by rw[World.size_setCell];exact r.lz⟩
theorem Rw.setRow{w:Wq}{lo g:Nat}{aS aH aF aL:Option Addr}{cS cH cF cL:Nat}{M:Mm}(r:Rw w lo aS aH aF aL cS cH cF cL M)(hg:∀ ad,aS=some ad\/aH=some ad\/aF=some ad\/aL=some ad->ad.block≠g)(j:Nat)(v:Value):Rw (w.setCell ⟨g,j,none⟩ v) lo aS aH aF aL cS cH cF cL M:=by
 have q:∀ {a:Option Addr} {n c:Nat},(∀ ad,a=some ad->ad.block≠g)->(Value.slice a n c).ownBlock≠some g:=fun {a n c} h e=>by
  cases a with
  | none=>cases e
  | some ad=>injection e with e;exact h ad rfl e
 exact⟨ownsRow_setCell_other r.s (q fun ad h=>hg ad (.inl h)) _,ownsRow_setCell_other r.h (q fun ad h=>hg ad (.inr (.inl h))) _,ownsRow_setCell_other r.f (q fun ad h=>hg ad (.inr (.inr (.inl h)))) _,ownsRow_setCell_other r.l (q fun ad h=>hg ad (.inr (.inr (.inr h)))) _,r.hf,r.hl,r.fl,by rw[World.size_setCell];exact r.lz⟩
theorem a6a(w:Wq)(B:Nat)(v0 v1 v2 v3 v4:Value):w.setCells B 0 [v0,v1,v2,v3,v4]=Hu w B v0 v1 v2 v3 v4:=by
 simp only[World.setCells,Hu,Nat.zero_add,Nat.reduceAdd]
theorem ws_M{ops:Array Oper}{rest:List Oper}{op:Oper}{a:Act}{w:Wq}{Q:Exit->Act->Wq->Prop}{aS aH aF aL:Option Addr}{nS nH nF nL cS cH cF cL:Nat}{now:Int}{B:Nat}(hgd:op.guard=none)(x y:Operand)(ho:op.op=.store 25 x y)(hx:a.eval x=.pointer (some ⟨B,0,none⟩))(hy:a.eval y=.agg #[Y aS nS cS,Y aH nH cH,Y aF nF cF,Y aL nL cL,O J now])(h:w.there B 0 5)
  (K:wpList Pg ops Q rest (a.put op.dst Uz) (Hu w B (Y aS nS cS) (Y aH nH cH) (Y aF nF cF) (Y aL nL cL) (O J now))):wpList Pg ops Q (op :: rest) a w :=
 ws_5 hgd x y ho hx hy h (by kernel_rfl) (by rw[a6a];exact K)
theorem a2b{w:Wq}{g:Nat}{u0 u1 u2 u3 u4 u5:Value}{t:TypeId}(h:w.heap[g]?=some (.cells #[u0,u1,u2,u3,u4,u5] t (0,0)))(v0 v1 v2 v3 v4 v5:Value):(w.setCells g 0 [v0,v1,v2,v3,v4,v5]).heap[g]?=some (.cells #[v0,v1,v2,v3,v4,v5] t (0,0)):=by
 have:=block_setCell (i:=5) (block_setCell (i:=4) (block_setCell (i:=3) (block_setCell (i:=2) (block_setCell (i:=1) (block_setCell (i:=0) h v0) v1) v2) v3) v4) v5
 simp only[World.setCells,Nat.zero_add,Nat.reduceAdd]
 rw[this]
 simp
theorem Aw{w0 w:Wq}{n g o:Nat}{vs:List Value}(h:Below n w0 w)(hg:n<=g):Below n w0 (w.setCells g o vs) :=
 h.trans ⟨(Ap vs o w).1,(Ap vs o w).2.1,(Ap vs o w).2.2,by rw[setCells_size];exact Nat.le_refl _,fun k hk=>Ad (by omega) vs o w⟩
def b0l(w:Wq)(M:Mm)(ts:List Tk)(e:Ending)(w':Wq):Prop :=
 ∃ gS gH gF gL kS kH kF kL g c l' lo2,e=.returned (.agg #[Y gS M.slots.length kS,Y gH M.heads.length kH,Y gF M.free.length kF,Y gL M.locks.length kL,O J M.now,Y (some ⟨g,0,none⟩) (List.length l') c]) /\
  Rw w' w.heap.size gS gH gF gL kS kH kF kL M/\LoM lo2 gS gH gF gL/\Bo w' lo2 g c l'/\(∀ p∈l',∀ a,p.2.aK=some a->a.block<w'.heap.size/\a.block≠g/\∀ q∈l',∀ b,q.2.aH=some b->a.block≠b.block)/\l'.map (·.1)=ts/\w.heap.size<=lo2/\Below w.heap.size w w'
theorem a3l(M:Mm)(l:List (Tk × TkV))(aS aH aF aL:Option Addr)(cS cH cF cL:Nat)(aT:Option Addr)(cT:Nat)(w:Wq)(A:At w aS aH aF aL cS cH cF cL M)(r:Ef w aT cT l)(n1:1<=l.length)(n5:l.length<=5)(hm:∀ p∈l,p.1.held.length<=1000) :
  Calls Pg 57 #[.agg #[Y aS M.slots.length cS,Y aH M.heads.length cH,Y aF M.free.length cF,Y aL M.locks.length cL,O J M.now,Y aT l.length cT]] w (b0l w M (l.map (·.1))):=by
 have m1:=A.s.max;have m2:=A.h.max;have m3:=r.max
 obtain⟨ox,hox⟩:∃ o:Obj,o=.cells #[Y aS M.slots.length cS,Y aH M.heads.length cH,Y aF M.free.length cF,Y aL M.locks.length cL,O J M.now,Y aT l.length cT] 28:=⟨_,rfl⟩
 obtain⟨oy,hoy⟩:∃ o:Obj,o=.cells #[Y none 0 0,Y none 0 0,Y none 0 0,Y none 0 0,O J 0,Y none 0 0] 28:=⟨_,rfl⟩
 have b0:Below w.heap.size w ((w.alloc ox).alloc oy):=below_alloc2 w ox oy
 have HX0:Hid (((w.alloc ox).alloc oy).heap[w.heap.size]?=some ox):=by show _=_;rw[Below.heap_alloc _ _ _ (by simp),heap_alloc_new]
 have HY0:Hid (((w.alloc ox).alloc oy).heap[w.heap.size+1]?=some oy):=by
  have:=heap_alloc_new (w.alloc ox) oy
  rwa [show (w.alloc ox).heap.size=w.heap.size+1 by simp] at this
 have HA0:Hid (At ((w.alloc ox).alloc oy) aS aH aF aL cS cH cF cL M):=A.below b0
 have HR:Hid (Ef w aT cT l):=r
 have z0:((w.alloc ox).alloc oy).heap.size=w.heap.size+2:=by simp
 have HHm:Hid (∀ p∈l,p.1.held.length<=1000):=hm
 have HKm:Hid (∀ p∈l,p.1.f.keys.length*16<=140737488351232):=fun p hp=>(r.keys p hp).max
 clear A r hm
 go_enter Tryz.func57,Tryz.ntmps57
 go_wp2_with fail
 rw[<- hox,<- hoy]
 generalize (w.alloc ox).alloc oy=W0 at *
 refine(a7c M aS aH aF aL cS cH cF cL W0 HA0.out).mono ?_
 rintro e w1 ⟨gS,gH,gF,gL,kS,kH,kF,kL,rfl,c1,hb1⟩
 have HX1:Hid (w1.heap[w.heap.size]?=some ox):=(hb1.block _ (lt_of_block HX0.out)).trans HX0.out
 have HY1:Hid (w1.heap[w.heap.size+1]?=some oy):=(hb1.block _ (lt_of_block HY0.out)).trans HY0.out
 have b1:Below w.heap.size w w1:=b0.trans (hb1.mono b0.size)
 have z1:=hb1.size
 have HC1:Hid (Rw w1 W0.heap.size gS gH gF gL kS kH kF kL M):=c1
 clear HX0 HY0 HA0 hb1 b0 c1
 subst hox hoy
 have HTh:Hid (w1.there w.heap.size 0 5):=Az HX1.out (by simp)
 have HBx:Hid ((Hu w1 w.heap.size (Y gS M.slots.length kS) (Y gH M.heads.length kH) (Y gF M.free.length kF) (Y gL M.locks.length kL) (O J M.now)).heap[w.heap.size]?=some (.cells #[Y gS M.slots.length kS,Y gH M.heads.length kH,Y gF M.free.length kF,Y gL M.locks.length kL,O J M.now,Y aT l.length cT] 28 (0,0))):=Qa HX1.out _ _ _ _ _
 have HYx:Hid ((Hu w1 w.heap.size (Y gS M.slots.length kS) (Y gH M.heads.length kH) (Y gF M.free.length kF) (Y gL M.locks.length kL) (O J M.now)).heap[w.heap.size+1]?=_):=(Mc (by omega)).trans HY1.out
 have HCx:Hid (Rw (Hu w1 w.heap.size (Y gS M.slots.length kS) (Y gH M.heads.length kH) (Y gF M.free.length kF) (Y gL M.locks.length kL) (O J M.now)) W0.heap.size gS gH gF gL kS kH kF kL M):=HC1.out.Hu (Xb:=Xw aT l.length cT) HX1.out _ _ _ _ _
 have bx:Below w.heap.size w (Hu w1 w.heap.size (Y gS M.slots.length kS) (Y gH M.heads.length kH) (Y gF M.free.length kF) (Y gL M.locks.length kL) (O J M.now)):=b1.trans (Jl w1 w.heap.size w.heap.size _ _ _ _ _ (Nat.le_refl _))
 have zx:W0.heap.size<=(Hu w1 w.heap.size (Y gS M.slots.length kS) (Y gH M.heads.length kH) (Y gF M.free.length kF) (Y gL M.locks.length kL) (O J M.now)).heap.size:=by rw[Xq];exact z1
 have HTx:Hid (Ef (Hu w1 w.heap.size (Y gS M.slots.length kS) (Y gH M.heads.length kH) (Y gF M.free.length kF) (Y gL M.locks.length kL) (O J M.now)) aT cT l):=HR.out.below bx
 obtain⟨q0,q1,q2,q3,q4,q5,qs⟩:=Bc HBx.out
 clear HX1 HY1 HC1 b1
 go_wp2_with (refine ws_M rfl _ _ rfl rfl rfl HTh.out ?_;generalize Hu w1 w.heap.size (Y gS M.slots.length kS) (Y gH M.heads.length kH) (Y gF M.free.length kF) (Y gL M.locks.length kL) (O J M.now)=W1 at *)
 obtain⟨ad0,rfl⟩:∃ ad,aT=some ad:=by
  obtain⟨b,o,e⟩:=HTx.out.addr (by omega)
  exact⟨_,e⟩
 refine(a1f ad0 cT l W1 HTx.out).mono ?_
 rintro e w2 ⟨rfl,hrow,hb2⟩
 obtain⟨g,hg⟩:∃ g,g=W1.heap.size:=⟨_,rfl⟩
 rw[<- hg] at hrow ⊢
 have gW:w.heap.size<g/\w.heap.size+1<g:=by omega
 have HG:Hid (g=W1.heap.size):=hg
 have HBy:Hid (w2.heap[w.heap.size]?=_):=(hb2.block _ (lt_of_block HBx.out)).trans HBx.out
 have HYy:Hid (w2.heap[w.heap.size+1]?=_):=(hb2.block _ (lt_of_block HYx.out)).trans HYx.out
 have HCy:Hid (Rw w2 W0.heap.size gS gH gF gL kS kH kF kL M):=HCx.out.below hb2
 have HLo:Hid (LoM g gS gH gF gL):=by show LoM _ _ _ _ _;rw[hg];exact HCx.out.lom
 have b2:Below w.heap.size w w2:=bx.trans (hb2.mono bx.size)
 have z2:g<w2.heap.size:=(hrow.lt g rfl).2
 have HRow:Hid (w2.ownsRow g 49 16 (Y (some ⟨g,0,none⟩) l.length l.length) l.length (Ep l)):=hrow
 clear hg HBx HYx HCx HTx bx hb2 hrow q0 q1 q2 q3 q4 q5 qs
 obtain⟨q0,q1,q2,q3,q4,q5,qs⟩:=Bc HBy.out
 have f5:w2.frozen? ⟨w.heap.size,5,none⟩=false:=unfrozen_of_block HBy.out _
 have HB3:Hid ((w2.setCell ⟨w.heap.size,5,none⟩ (Y (some ⟨g,0,none⟩) l.length l.length)).heap[w.heap.size]?=some (.cells #[Y gS M.slots.length kS,Y gH M.heads.length kH,Y gF M.free.length kF,Y gL M.locks.length kL,O J M.now,Y (some ⟨g,0,none⟩) l.length l.length] 28 (0,0))):=by
  have:=block_setCell (i:=5) HBy.out (Y (some ⟨g,0,none⟩) l.length l.length)
  show _=_
  simpa using this
 have HY3:Hid ((w2.setCell ⟨w.heap.size,5,none⟩ (Y (some ⟨g,0,none⟩) l.length l.length)).heap[w.heap.size+1]?=_):=(Below.heap_setCell w2 ⟨w.heap.size,5,none⟩ _ (w.heap.size+1) (by show w.heap.size+1≠w.heap.size;omega)).trans HYy.out
 have HC3:Hid (Rw (w2.setCell ⟨w.heap.size,5,none⟩ (Y (some ⟨g,0,none⟩) l.length l.length)) W0.heap.size gS gH gF gL kS kH kF kL M):=HCy.out.Yd HBy.out _ _
 have HP3:Hid (Oy (w2.setCell ⟨w.heap.size,5,none⟩ (Y (some ⟨g,0,none⟩) l.length l.length)) g g l.length l 0):=⟨E8 HRow.out HBy.out (by decide) _,(fun j h h0=>absurd h0 (Nat.not_lt_zero _)),(fun j h h0=>absurd h0 (Nat.not_lt_zero _)),fun i j hi hj h0=>absurd h0 (Nat.not_lt_zero _)⟩
 have b3:Below w.heap.size w (w2.setCell ⟨w.heap.size,5,none⟩ (Y (some ⟨g,0,none⟩) l.length l.length)):=b2.setCell (Nat.le_refl _) _
 have z3:g<(w2.setCell ⟨w.heap.size,5,none⟩ (Y (some ⟨g,0,none⟩) l.length l.length)).heap.size:=by rw[World.size_setCell];exact z2
 clear HYy HCy HRow b2 z2
 go_wp2_with fail
 generalize w2.setCell ⟨w.heap.size,5,none⟩ (Y (some ⟨g,0,none⟩) l.length l.length)=W3 at *
 have N2:Hid (∀ j (h:j<l.length),Cj w l[j].2.aH l[j].2.cH l[j].1.held/\Am w l[j].2.aK l[j].2.cK l[j].1.f.keys):=fun j h=>⟨HR.out.held _ (List.getElem_mem h),HR.out.keys _ (List.getElem_mem h)⟩
 clear HR HBy q0 q1 q2 q3 q4 q5 qs f5
 go_loopw [16] (fun i wr=>∃ (k:Nat) (lk:List (Tk × TkV)),k<=l.length/\i=O J k/\Hid (lk.length=l.length/\lk.map (·.1)=l.map (·.1)/\∀ j,k<=j->lk[j]?=l[j]?)/\Hid (Oy wr g g l.length lk k)/\Hid (Rw wr W0.heap.size gS gH gF gL kS kH kF kL M) /\
   Hid (wr.heap[w.heap.size]?=some (.cells #[Y gS M.slots.length kS,Y gH M.heads.length kH,Y gF M.free.length kF,Y gL M.locks.length kL,O J M.now,Y (some ⟨g,0,none⟩) l.length l.length] 28 (0,0))) /\
   Hid (wr.heap[w.heap.size+1]?=some (.cells #[Y none 0 0,Y none 0 0,Y none 0 0,Y none 0 0,O J 0,Y none 0 0] 28 (0,0)))/\Hid (Below w.heap.size w wr)/\Hid (g<wr.heap.size)) (fun i _=>l.length - (intOf i).toNat)
 case atStart=>exact⟨0,l,Nat.zero_le _,rfl,⟨rfl,rfl,fun _ _=>rfl⟩,HP3,HC3,HB3,HY3,b3,z3⟩
 case round =>
  obtain⟨k,lk,hk,rfl,HL,HP,HC,HB,HY,Hb,Hz⟩:=hrel
  clear HP3 HC3 HB3 HY3 b3 z3
  obtain⟨q0,q1,q2,q3,q4,q5,qs⟩:=Bc HB.out
  by_cases hlt:k<l.length
  ·have hltk:k<lk.length:=by rw[HL.out.1];exact hlt
   have HE:Hid (lk[k]'hltk=l[k]):=by
    have:=HL.out.2.2 k (Nat.le_refl _)
    rw[List.getElem?_eq_getElem hltk,List.getElem?_eq_getElem hlt] at this
    injection this
   have hrow:=HP.out.row
   have cHd:wr.cell? ⟨g,k*16+15,none⟩=some (Y l[k].2.aH l[k].1.held.length l[k].2.cH):=by
    rw[hrow.cellAt _ (by rw[HL.out.1];omega),Ho hltk (by decide),HE.out];rfl
   obtain⟨hHi,hKi⟩:=N2.out k hlt
   have HHi:Hid (Cj wr l[k].2.aH l[k].2.cH l[k].1.held):=hHi.below Hb.out
   have HKi:Hid (Am w l[k].2.aK l[k].2.cK l[k].1.f.keys):=hKi
   clear hHi hKi hrow
   go_wp2_with fail
   refine(Oi l[k].2.aH l[k].2.cH l[k].1.held wr HHi.out).mono ?_
   rintro e w4 ⟨a4,c4,rfl,hown4,hb4⟩
   have HB4:Hid (w4.heap[w.heap.size]?=_):=(hb4.block _ (lt_of_block HB.out)).trans HB.out
   have HY4:Hid (w4.heap[w.heap.size+1]?=_):=(hb4.block _ (lt_of_block HY.out)).trans HY.out
   have HC4:Hid (Rw w4 W0.heap.size gS gH gF gL kS kH kF kL M):=HC.out.below hb4
   have b4:Below w.heap.size w w4:=Hb.out.trans (hb4.mono Hb.out.size)
   have row4:=own_below HP.out.row hb4
   have zz4:=hb4.size
   have HS4:Hid (∀ j,j<wr.heap.size->w4.heap[j]?=wr.heap[j]?):=fun j h=>hb4.block j h
   have c15:w4.cell? ⟨g,k*16+15,none⟩=some (Y l[k].2.aH l[k].1.held.length l[k].2.cH):=by
    rw[row4.cellAt _ (by rw[HL.out.1];omega),Ho hltk (by decide),HE.out];rfl
   have f15:w4.frozen? ⟨g,k*16+15,none⟩=false:=row4.frozenAt _
   have row5:(w4.setCell ⟨g,k*16+15,none⟩ (Y a4 l[k].1.held.length c4)).ownsRow g 49 16 (Y (some ⟨g,0,none⟩) lk.length l.length) lk.length (Ep (lk.set k (l[k].1,⟨l[k].2.aK,l[k].2.cK,a4,c4⟩))):=by
    rw[<- Qo hltk (o:=15) (Y a4 l[k].1.held.length c4) (l[k].1,⟨l[k].2.aK,l[k].2.cK,a4,c4⟩) (by decide) (by rw[HE.out];rfl)]
    exact(row4.stored _ _).1
   have hnB:w.heap.size≠g/\w.heap.size+1≠g:=by omega
   have hset:∀ j,j≠g->(w4.setCell ⟨g,k*16+15,none⟩ (Y a4 l[k].1.held.length c4)).heap[j]?=w4.heap[j]?:=fun j h=>Below.heap_setCell _ _ _ _ (by dsimp only;exact h)
   have HB5:Hid ((w4.setCell ⟨g,k*16+15,none⟩ (Y a4 l[k].1.held.length c4)).heap[w.heap.size]?=_):=(hset _ hnB.1).trans HB4.out
   have HY5:Hid ((w4.setCell ⟨g,k*16+15,none⟩ (Y a4 l[k].1.held.length c4)).heap[w.heap.size+1]?=_):=(hset _ hnB.2).trans HY4.out
   have HC5:Hid (Rw (w4.setCell ⟨g,k*16+15,none⟩ (Y a4 l[k].1.held.length c4)) W0.heap.size gS gH gF gL kS kH kF kL M):=HC4.out.setRow (fun ad h e=>by have:=HLo.out ad h;omega) _ _
   have b5:Below w.heap.size w (w4.setCell ⟨g,k*16+15,none⟩ (Y a4 l[k].1.held.length c4)):=b4.setCell (by show w.heap.size<=g;omega) _
   have HO5:Hid ((w4.setCell ⟨g,k*16+15,none⟩ (Y a4 l[k].1.held.length c4)).ownsRow wr.heap.size 3 1 (Y a4 l[k].1.held.length c4) l[k].1.held.length (encI l[k].1.held)):=by
    refine ownsRow_setCell_other hown4 (fun h=>?_) _
    have:=(hown4.lt g h).1
    have:=Hz.out
    omega
   have HS5:Hid (∀ j,j<wr.heap.size->j≠g->(w4.setCell ⟨g,k*16+15,none⟩ (Y a4 l[k].1.held.length c4)).heap[j]?=wr.heap[j]?):=fun j h h'=>(hset j h').trans (HS4.out j h)
   have z5:wr.heap.size<=(w4.setCell ⟨g,k*16+15,none⟩ (Y a4 l[k].1.held.length c4)).heap.size:=by rw[World.size_setCell];exact zz4
   have HR5:Hid _:=row5
   have HK5:Hid (Am (w4.setCell ⟨g,k*16+15,none⟩ (Y a4 l[k].1.held.length c4)) l[k].2.aK l[k].2.cK l[k].1.f.keys):=HKi.out.below b5
   have hltk':k<(lk.set k (l[k].1,(⟨l[k].2.aK,l[k].2.cK,a4,c4⟩:TkV))).length:=by rw[List.length_set];exact hltk
   have c12:(w4.setCell ⟨g,k*16+15,none⟩ (Y a4 l[k].1.held.length c4)).cell? ⟨g,k*16+12,none⟩=some (Y l[k].2.aK l[k].1.f.keys.length l[k].2.cK):=by
    have h:=row5.cellAt (k*16+12) (by rw[HL.out.1];omega)
    rw[h,Ho hltk' (by decide),List.getElem_set_self];rfl
   have HRo:Hid (Oy wr g g l.length lk k):=HP
   clear HB4 HY4 HC4 b4 row4 zz4 HS4 row5 hset hown4 hb4 HB HY HC Hb HKi HHi q0 q1 q2 q3 q4 q5 qs cHd HP
   go_wp2_with fail
   generalize w4.setCell ⟨g,k*16+15,none⟩ (Y a4 l[k].1.held.length c4)=W5 at *
   refine(Sv l[k].2.aK l[k].2.cK l[k].1.f.keys W5 HK5.out).mono ?_
   rintro e w6 ⟨a6,c6,rfl,hown6,hb6⟩
   have HB6:Hid (w6.heap[w.heap.size]?=_):=(hb6.block _ (lt_of_block HB5.out)).trans HB5.out
   have HY6:Hid (w6.heap[w.heap.size+1]?=_):=(hb6.block _ (lt_of_block HY5.out)).trans HY5.out
   have HC6:Hid (Rw w6 W0.heap.size gS gH gF gL kS kH kF kL M):=HC5.out.below hb6
   have b6:Below w.heap.size w w6:=b5.trans (hb6.mono b5.size)
   have row6:=own_below HR5.out hb6
   have zz6:=hb6.size
   have HS6:Hid (∀ j,j<wr.heap.size->j≠g->w6.heap[j]?=wr.heap[j]?):=fun j h h'=>(hb6.block j (by omega)).trans (HS5.out j h h')
   have HO6:Hid (w6.ownsRow wr.heap.size 3 1 (Y a4 l[k].1.held.length c4) l[k].1.held.length (encI l[k].1.held)):=own_below HO5.out hb6
   have c12':w6.cell? ⟨g,k*16+12,none⟩=some (Y l[k].2.aK l[k].1.f.keys.length l[k].2.cK):=by
    rw[row6.cellAt (k*16+12) (by rw[HL.out.1];omega),Ho hltk' (by decide),List.getElem_set_self];rfl
   have f12:w6.frozen? ⟨g,k*16+12,none⟩=false:=row6.frozenAt _
   have HR7:Hid ((w6.setCell ⟨g,k*16+12,none⟩ (Y a6 l[k].1.f.keys.length c6)).ownsRow g 49 16 (Y (some ⟨g,0,none⟩) lk.length l.length) lk.length (Ep (lk.set k (lk[k].1,⟨a6,c6,a4,c4⟩)))):=by
    have h:=(row6.stored (k*16+12) (Y a6 l[k].1.f.keys.length c6)).1
    rw[Qo hltk' (o:=12) (Y a6 l[k].1.f.keys.length c6) (l[k].1,⟨a6,c6,a4,c4⟩) (by decide) (by rw[List.getElem_set_self];rfl),List.set_set] at h
    rw[HE.out]
    exact h
   have hset:∀ j,j≠g->(w6.setCell ⟨g,k*16+12,none⟩ (Y a6 l[k].1.f.keys.length c6)).heap[j]?=w6.heap[j]?:=fun j h=>Below.heap_setCell _ _ _ _ (by dsimp only;exact h)
   have HB7:Hid ((w6.setCell ⟨g,k*16+12,none⟩ (Y a6 l[k].1.f.keys.length c6)).heap[w.heap.size]?=_):=(hset _ hnB.1).trans HB6.out
   have HY7:Hid ((w6.setCell ⟨g,k*16+12,none⟩ (Y a6 l[k].1.f.keys.length c6)).heap[w.heap.size+1]?=_):=(hset _ hnB.2).trans HY6.out
   have HC7:Hid (Rw (w6.setCell ⟨g,k*16+12,none⟩ (Y a6 l[k].1.f.keys.length c6)) W0.heap.size gS gH gF gL kS kH kF kL M):=HC6.out.setRow (fun ad h e=>by have:=HLo.out ad h;omega) _ _
   have Hb7:Hid (Below w.heap.size w (w6.setCell ⟨g,k*16+12,none⟩ (Y a6 l[k].1.f.keys.length c6))):=b6.setCell (by show w.heap.size<=g;omega) _
   have Hz7:Hid (g<(w6.setCell ⟨g,k*16+12,none⟩ (Y a6 l[k].1.f.keys.length c6)).heap.size):=by
    show _<_
    rw[World.size_setCell];have:=Hz.out;omega
   have HP7:Hid (Oy (w6.setCell ⟨g,k*16+12,none⟩ (Y a6 l[k].1.f.keys.length c6)) g g l.length (lk.set k (lk[k].1,⟨a6,c6,a4,c4⟩)) (k+1)):=by
    refine HRo.out.step hltk a6 a4 c6 c4 (Nat.le_of_lt Hz.out) HR7.out ?_ ?_ (fun j h h'=>(hset j h').trans (HS6.out j h h'))
    ·rw[HE.out]
     refine ownsRow_setCell_other HO6.out (fun h=>?_) _
     have:=(HO6.out.lt g h).1
     have:=Hz.out
     omega
    ·rw[HE.out]
     refine(hown6.same fun ad e=>hset _ ?_).le z5
     have:=(hown6.lt ad e).1
     have:=Hz.out
     omega
   have HL7:Hid ((lk.set k (lk[k].1,(⟨a6,c6,a4,c4⟩:TkV))).length=l.length/\(lk.set k (lk[k].1,(⟨a6,c6,a4,c4⟩:TkV))).map (·.1)=l.map (·.1)/\∀ j,k+1<=j->(lk.set k (lk[k].1,(⟨a6,c6,a4,c4⟩:TkV)))[j]?=l[j]?) :=
    ⟨by rw[List.length_set];exact HL.out.1,(b2g hltk _).trans HL.out.2.1,fun j h=>by rw[List.getElem?_set_ne (by omega)];exact HL.out.2.2 j (by omega)⟩
   clear HB5 HY5 HC5 b5 HO5 HS5 z5 HR5 HK5 HB6 HY6 HC6 b6 row6 zz6 HS6 HO6 HR7 hset hown6 hb6 c12 HRo
   go_wp2
   go_roundw
   case rel=>exact⟨k+1,_,by omega,by go_num,HL7,HP7,HC7,HB7,HY7,Hb7,Hz7⟩
   case measure=>simp[intOf];omega
  ·have HTO:Hid (Bo wr g g l.length lk):=HP.out.own (by rw[HL.out.1];omega) (by rw[HL.out.1];exact n5) (fun p hp=>by
    have:p.1∈l.map (·.1):=by rw[<- HL.out.2.1];exact List.mem_map.2 ⟨p,hp,rfl⟩
    obtain⟨q,hq,e⟩:=List.mem_map.1 this
    rw[<- e];exact HHm.out q hq) (fun p hp=>by
    have:p.1∈l.map (·.1):=by rw[<- HL.out.2.1];exact List.mem_map.2 ⟨p,hp,rfl⟩
    obtain⟨q,hq,e⟩:=List.mem_map.1 this
    rw[<- e];exact HKm.out q hq)
   have l6:Hid (wr.rangeAt w.heap.size 0 [Y gS M.slots.length kS,Y gH M.heads.length kH,Y gF M.free.length kF,Y gL M.locks.length kL,O J M.now,Y (some ⟨g,0,none⟩) l.length l.length]):=Au HB.out rfl
   have t6:Hid (wr.there (w.heap.size+1) 0 6):=Az HY.out (by simp)
   have HY8:Hid ((wr.setCells (w.heap.size+1) 0 [Y gS M.slots.length kS,Y gH M.heads.length kH,Y gF M.free.length kF,Y gL M.locks.length kL,O J M.now,Y (some ⟨g,0,none⟩) l.length l.length]).heap[w.heap.size+1]?=_):=a2b HY.out _ _ _ _ _ _
   have ho8:∀ j,j≠w.heap.size+1->(wr.setCells (w.heap.size+1) 0 [Y gS M.slots.length kS,Y gH M.heads.length kH,Y gF M.free.length kF,Y gL M.locks.length kL,O J M.now,Y (some ⟨g,0,none⟩) l.length l.length]).heap[j]?=wr.heap[j]?:=fun j h=>Ad h _ _ _
   have HO8:Hid _:=ho8
   have b8:Below w.heap.size w (wr.setCells (w.heap.size+1) 0 [Y gS M.slots.length kS,Y gH M.heads.length kH,Y gF M.free.length kF,Y gL M.locks.length kL,O J M.now,Y (some ⟨g,0,none⟩) l.length l.length]):=Aw Hb.out (Nat.le_succ _)
   have z8:(wr.setCells (w.heap.size+1) 0 [Y gS M.slots.length kS,Y gH M.heads.length kH,Y gF M.free.length kF,Y gL M.locks.length kL,O J M.now,Y (some ⟨g,0,none⟩) l.length l.length]).heap.size=wr.heap.size:=setCells_size _ _ _
   clear ho8 HB HY q0 q1 q2 q3 q4 q5 qs
   go_wp2_with (first|refine Ha rfl _ rfl rfl l6.out ?_|refine Gz rfl _ _ rfl rfl rfl t6.out (by kernel_rfl) ?_)
   generalize wr.setCells _ 0 _=W8 at *
   refine bodyPost_ret (results_cell_row Tryz.results57 _ W8 (w.heap.size+1) 28 _ (0,0) _ rfl HY8.out Tryz.underlying28 rfl (by kernel_rfl)) rfl ?_
   refine⟨gS,gH,gF,gL,kS,kH,kF,kL,g,l.length,lk,g,by rw[HL.out.1],?_,HLo.out,?_,?_,HL.out.2.1,by omega,b8⟩
   ·have h:=HC.out
    have q:∀ {lo e size n:Nat} {v:Value} {xs:List Value},wr.ownsRow lo e size v n xs->W0.heap.size<=lo->W8.ownsRow w.heap.size e size v n xs:=fun {lo e size n v xs} h hl=>ownsRow_le (Bj h fun k hk=>HO8.out k (by have:=(h.lt k hk).1;omega)) (by omega)
    exact⟨q h.s (Nat.le_refl _),q h.h (Nat.le_refl _),q h.f (Nat.le_refl _),q h.l (Nat.le_refl _),h.hf,h.hl,h.fl,b8.size⟩
   ·refine HTO.out.same fun k _ hk=>HO8.out k ?_
    rcases hk with rfl|⟨p,hp,a,ha,rfl⟩|⟨p,hp,a,ha,rfl⟩
    ·omega
    ·have:=(HTO.out.hlo hp ha).1;omega
    ·have:=HTO.out.klo p hp a ha;omega
   ·intro p hp a ha
    obtain⟨j,hj,rfl⟩:=List.getElem_of_mem hp
    have hko:=HP.out.keys j hj (by have:=HL.out.1;omega)
    have hz:=(hko.lt a ha).2
    have h1:=hko.own
    rw[ha] at h1
    refine⟨by omega,fun e=>Cf h1 HP.out.row (by decide) a.block rfl (by rw[e];rfl),fun q hq b hb e=>?_⟩
    have h2:=HTO.out.held q hq
    rw[hb] at h2
    exact Cf h1 h2 (by decide) a.block rfl (by rw[e];rfl)
end
end Go.Proofs.YthhgoenomehobaaGreat.mm
