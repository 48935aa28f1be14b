/- Parts. -/
import Derived.Test.YthhgoenomehobaaGreatP22
import Derived.Test.YthhgoenomehobaaGreatP15
import Derived.Test.YthhgoenomehobaaGreatP37
import Derived.ArgAppend
namespace Go.Proofs.YthhgoenomehobaaGreat.mm
set_option maxRecDepth 100000
set_option linter.unusedVariables false
open Go.Value renaming int → O, slice → Y
open Go.IntKind renaming i64 → J
open Go.Proofs.Tryz renaming prog → Pg
open Go renaming undef → Uz, World → Wq
open Go.ChangeShapes Go.WideShapes Go.ChangeAt Go.RowKit Go.Joins Go.Maps
set_option maxHeartbeats 6400000
section
structure Xy(w:Wq)(lo:Nat)(v:Value)(l:List (Tk × TkV)):Prop where
 row:w.ownsRow lo 49 16 v l.length (Ep l)
 held:∀ p∈l,w.ownsRow lo 3 1 (Y p.2.aH p.1.held.length p.2.cH) p.1.held.length (encI p.1.held)
 keys:∀ p∈l,Dk w lo p.2.aK p.2.cK p.1.f.keys
 dj:∀ i j (hi:i<l.length) (hj:j<l.length),i≠j->∀ a b,l[i].2.aH=some a->l[j].2.aH=some b->a.block≠b.block
theorem a9x(w:Wq)(lo:Nat):Xy w lo (Y none 0 0) []:=⟨World.ownsRow_nil w lo 49 16,(fun _ h=>by cases h),(fun _ h=>by cases h),(fun i j h=>by cases h)⟩
theorem Xy.snoc{w w':Wq}{lo X:Nat}{v v':Value}{l:List (Tk × TkV)}{cs:Array Value}(T:Xy w lo v l)(hX:w.heap[X]?=some (.cells cs 28 (0,0)))(hs:∀ k,k<w.heap.size->k≠X->v.ownBlock≠some k->w'.heap[k]?=w.heap[k]?)(hlo:lo<=w.heap.size)
  {t:Tk} {p:TkV} (row:w'.ownsRow lo 49 16 v' (l.length+1) (Ep l++t.enc p)) (hh:w'.ownsRow w.heap.size 3 1 (Y p.aH t.held.length p.cH) t.held.length (encI t.held)) (hk:Dk w' w.heap.size p.aK p.cK t.f.keys):Xy w' lo v' (l ++ [(t,p)]):=by
 have hnew:∀ q∈l,∀ a b,q.2.aH=some a->p.aH=some b->a.block≠b.block:=fun q hq a b ha hb=>by
  have h1:=T.held q hq
  rw[ha] at h1;rw[hb] at hh
  have:=(h1.lt a.block rfl).2
  have:=(hh.lt b.block rfl).1
  omega
 refine⟨by simpa [Ep] using row,fun q hq=>?_,fun q hq=>?_,fun i j hi hj hne a b ha hb=>?_⟩
 ·rcases List.mem_append.1 hq with h|h
  ·have h1:=T.held q h
   exact Bj h1 fun g hg=>hs g (h1.lt g hg).2 (fun e=>own_ne h1 hX (by decide) (by rw[hg,e])) (fun e=>Cf h1 T.row (by decide) g hg e)
  ·obtain rfl:=List.mem_singleton.1 h
   exact ownsRow_le hh hlo
 ·rcases List.mem_append.1 hq with h|h
  ·have h1:=T.keys q h
   refine⟨Bj h1.own fun g hg=>hs g (h1.own.lt g hg).2 (fun e=>own_ne h1.own hX (by decide) (by rw[hg,e])) (fun e=>Cf h1.own T.row (by decide) g hg e)⟩
  ·obtain rfl:=List.mem_singleton.1 h
   exact hk.le hlo
 ·have hl:(l ++ [(t,p)]).length=l.length+1:=by simp
  by_cases h1:i<l.length
  ·rw[List.getElem_append_left h1] at ha
   by_cases h2:j<l.length
   ·rw[List.getElem_append_left h2] at hb
    exact T.dj i j h1 h2 hne a b ha hb
   ·have e2:j=l.length:=by omega
    subst e2
    rw[List.getElem_append_right (Nat.le_refl _)] at hb
    exact hnew _ (List.getElem_mem h1) a b ha (by simpa using hb)
  ·have e1:i=l.length:=by omega
   subst e1
   rw[List.getElem_append_right (Nat.le_refl _)] at ha
   have h2:j<l.length:=by omega
   rw[List.getElem_append_left h2] at hb
   exact(hnew _ (List.getElem_mem h2) b a hb (by simpa using ha)).symm
theorem Rw.kept{w w':Wq}{lo lo2 X n:Nat}{aS aH aF aL:Option Addr}{cS cH cF cL:Nat}{M:Mm}{v:Value}{xs:List Value}{cs:Array Value}(R:Rw w lo aS aH aF aL cS cH cF cL M)(T:w.ownsRow lo2 49 16 v n xs)(hX:w.heap[X]?=some (.cells cs 28 (0,0)))(hs:∀ k,k<w.heap.size->k≠X->v.ownBlock≠some k->w'.heap[k]?=w.heap[k]?)(hz:w.heap.size<=w'.heap.size):Rw w' lo aS aH aF aL cS cH cF cL M :=
 have q:∀ {lo e size n:Nat} {u:Value} {xs:List Value},w.ownsRow lo e size u n xs->e≠28->e≠49->w'.ownsRow lo e size u n xs:=fun {lo e size n u xs} h h1 h2=>Bj h fun g hg=>hs g (h.lt g hg).2 (fun e=>own_ne h hX h1 (by rw[hg,e])) (fun e=>Cf h T h2 g hg e)
 ⟨q R.s (by decide) (by decide),q R.h (by decide) (by decide),q R.f (by decide) (by decide),q R.l (by decide) (by decide),R.hf,R.hl,R.fl,Nat.le_trans R.lz hz⟩
theorem Vt{W:Wq}(base:Nat)(t ty e:TypeId)(i:TypeInfo)(z:Value)(size bytes:Nat)(ht:Pg.underlying t=some (.slice e))(hi:Pg.info? e=some i)(hz:i.zero=some z)(hsize:i.size=size)(hby:i.bytes=bytes)(hzs:z.cells.size=size)(hsz:0<size)
  (g:Nat) (hown:W.ownsRow base e size (Y (some ⟨g,0,none⟩) 0 0) 0 []) (ao:Option Addr) (m c:Nat) (news:List Value) (hl:news.length=m*size) (hn:ao=none->m=0/\c=0) (hnews:∀ ad,ao=some ad->∀ j u,news[j]?=some u->W.cell? (ad.add j)=some u) (h1:∀ u∈news,u.oneCell'=true)
  (h63:m<=maxLen) (hbytes:m*bytes<=140737488355328) (hb:base<=W.heap.size):∃ v' W',(Builtin.append_ #[t,t] ty #[Y (some ⟨g,0,none⟩) 0 0,Y ao m c]).run Pg W=.ok v' W'/\W'.ownsRow base e size v' m news/\Below W.heap.size W W':=by
 cases ao with
 | none =>
  obtain⟨rfl,rfl⟩:=hn rfl
  obtain rfl:news=[]:=List.eq_nil_of_length_eq_zero (by rw[hl,Nat.zero_mul])
  exact⟨_,_,run_append_owned_none (P:=Pg) W base t ty e i size ht hi _ 0 [] hown,hown,Below.refl _ _⟩
 | some ad =>
  by_cases h0:m=0
  ·subst h0
   obtain rfl:news=[]:=List.eq_nil_of_length_eq_zero (by rw[hl,Nat.zero_mul])
   subst hsize
   exact⟨_,_,run_append_room_cells (P:=Pg) W t ty e i ht hi g 0 0 0 ad 0 c [] (by simp) (by simp) (by simp) (Nat.le_refl _) (by simp) (by simp),hown,Below.refl _ _⟩
  ·obtain⟨v',w',hr,h2,h3⟩:=run_append_arg_grows (P:=Pg) W t ty e i z size bytes ht hi hz hsize hby hzs hsz ⟨g,0,none⟩ 0 0 [] (by simp) (by simp) ad m c news hl (hnews ad rfl) (by omega) (by omega) (by rw[Nat.zero_add];exact hbytes)
   rw[Nat.zero_add,List.nil_append] at h2
   exact⟨v',w',hr,ownsRow_le h2 hb,(Below.refl _ _).grown h3 (Nat.le_refl _) (fun k h=>by cases h)⟩
theorem Nw{a:Act}{o:Oper}{W W':Wq}{v' vs vx:Value}{t:TypeId}{s y:Nat}(ho:o.op=.call { callee:=.builtin .append,args:=#[.tmp s,.tmp y],argTypes:=#[t,t] })(hs:a.eval (.tmp s)=vs)(hx:a.eval (.tmp y)=vx)(hr:(Builtin.append_ #[t,t] o.type #[vs,vx]).run Pg W=.ok v' W'):(execOp a.eval o).run Pg W=.ok (.value v') W':=by
 unfold execOp
 simp only[ho,resolve,invoke,builtin,Sem.run_bind,Sem.run_pure,Result.andThen_ok,List.map_toArray,List.map_cons,List.map_nil,hs,hx,hr]
theorem Vp(W:Wq)(e:TypeId)(size lo:Nat)(h:lo<=W.heap.size):(W.alloc (.cells #[] e)).ownsRow lo e size (Y (some ⟨W.heap.size,0,none⟩) 0 0) 0 [] :=
 ⟨by simp,.inr ⟨W.heap.size,0,#[],rfl,h,heap_alloc_new _ _,Nat.le_refl _,by decide,by simp,by simp⟩⟩
def b3x(n X:Nat)(t:Tk)(p:TkV):Nat->Value->Wq->Prop
 | 0,v,W=>∃ g,v=Y (some ⟨g,0,none⟩) 0 0/\W.ownsRow n 3 1 v 0 []
 | 1,v,_=>v=.pointer (some ⟨X,15,none⟩)
 | 2,v,_=>v=Y p.aH t.held.length p.cH
 | 3,v,W=>W.ownsRow n 3 1 v t.held.length (encI t.held)
 | 4,v,W=>∃ g,v=Y (some ⟨g,0,none⟩) 0 0/\W.ownsRow n 30 2 v 0 []
 | 5,v,_=>v=.pointer (some ⟨X,1,none⟩)
 | 6,v,_=>v=.pointer (some ⟨X,12,none⟩)
 | 7,v,_=>v=Y p.aK t.f.keys.length p.cK
 | 8,v,W=>W.ownsRow n 30 2 v t.f.keys.length (F6 t.f.keys)
 | _,v,_=>v=.pointer (some ⟨X,15,none⟩)
theorem a5n(n X:Nat)(t:Tk)(p:TkV):∀ i v w w',b3x n X t p i v w->Below w.heap.size w w'->b3x n X t p i v w'
 | 0,v,w,w',⟨g,e,h⟩,hb=>⟨g,e,own_below h hb⟩
 | 1,v,w,w',h,hb=>h
 | 2,v,w,w',h,hb=>h
 | 3,v,w,w',h,hb=>own_below (show w.ownsRow _ _ _ _ _ _ from h) hb
 | 4,v,w,w',⟨g,e,h⟩,hb=>⟨g,e,own_below h hb⟩
 | 5,v,w,w',h,hb=>h
 | 6,v,w,w',h,hb=>h
 | 7,v,w,w',h,hb=>h
 | 8,v,w,w',h,hb=>own_below (show w.ownsRow _ _ _ _ _ _ from h) hb
 | _+9,v,w,w',h,hb=>h
def b3b(w:Wq)(M:Mm)(ts:List Tk)(e:Ending)(w':Wq):Prop :=
 ∃ gS gH gF gL kS kH kF kL aT cT l' lo2,e=.returned (.agg #[Y gS M.slots.length kS,Y gH M.heads.length kH,Y gF M.free.length kF,Y gL M.locks.length kL,O J M.now,Y aT (List.length l') cT]) /\
  Rw w' w.heap.size gS gH gF gL kS kH kF kL M/\LoM lo2 gS gH gF gL/\Xy w' lo2 (Y aT (List.length l') cT) l'/\l'.map (·.1)=ts/\w.heap.size<=lo2/\Below w.heap.size w w'
theorem Rj(M:Mm)(l:List (Tk × TkV))(aS aH aF aL:Option Addr)(cS cH cF cL:Nat)(aT:Option Addr)(cT:Nat)(w:Wq)(A:At w aS aH aF aL cS cH cF cL M)(r:Ef w aT cT l) :
  Calls Pg 14 #[.agg #[Y aS M.slots.length cS,Y aH M.heads.length cH,Y aF M.free.length cF,Y aL M.locks.length cL,O J M.now,Y aT l.length cT]] w (b3b w M (l.map (·.1))):=by
 have m3:=r.max
 obtain⟨ox,hox⟩:∃ o:Obj,o=.cells #[Y aS M.slots.length cS,Y aH M.heads.length cH,Y aF M.free.length cF,Y aL M.locks.length cL,O J M.now,Y aT l.length cT] 28:=⟨_,rfl⟩
 obtain⟨oz,hoz⟩:∃ o:Obj,o=.cells #[Y none 0 0,Y none 0 0,Y none 0 0,Y none 0 0,O J 0,Y none 0 0] 28:=⟨_,rfl⟩
 have b0:Below w.heap.size w ((w.alloc ox).alloc oz):=below_alloc2 _ _ _
 have HX0:Hid (((w.alloc ox).alloc oz).heap[w.heap.size]?=some ox):=by show _=_;rw[Below.heap_alloc _ _ _ (by simp),heap_alloc_new]
 have HZ0:Hid (((w.alloc ox).alloc oz).heap[w.heap.size+1]?=some oz):=by
  have:=heap_alloc_new (w.alloc ox) oz
  rwa [show (w.alloc ox).heap.size=w.heap.size+1 by simp] at this
 have HA0:Hid (At ((w.alloc ox).alloc oz) aS aH aF aL cS cH cF cL M):=A.below b0
 have HR0:Hid (Ef w aT cT l):=r
 clear A r
 go_enter Tryz.func14,Tryz.ntmps14
 go_wp2_with fail
 rw[<- hox,<- hoz]
 generalize (w.alloc ox).alloc oz=W0 at *
 refine(a1h M aS aH aF aL cS cH cF cL W0 HA0.out).mono ?_
 rintro e w1 ⟨gS,gH,gF,gL,kS,kH,kF,kL,rfl,hR1,hb1⟩
 have HX1:Hid (w1.heap[w.heap.size]?=some ox):=(hb1.block _ (lt_of_block HX0.out)).trans HX0.out
 have HZ1:Hid (w1.heap[w.heap.size+1]?=some oz):=(hb1.block _ (lt_of_block HZ0.out)).trans HZ0.out
 have HB1:Hid (Below w.heap.size w w1):=b0.trans (hb1.mono b0.size)
 have HR1:Hid (Rw w1 W0.heap.size gS gH gF gL kS kH kF kL M):=hR1
 have hz1:w.heap.size+1<w1.heap.size:=lt_of_block HZ1.out
 have hz0:w.heap.size<=W0.heap.size:=b0.size
 clear HX0 HZ0 HA0 hb1 b0 hR1
 subst hox hoz
 obtain⟨oo,hoo⟩:∃ o:Obj,o=.cells #[Y gS M.slots.length kS,Y gH M.heads.length kH,Y gF M.free.length kF,Y gL M.locks.length kL,O J M.now,Y none 0 0] 28:=⟨_,rfl⟩
 have HO2:Hid ((w1.alloc oo).heap[w1.heap.size]?=some oo):=heap_alloc_new _ _
 have HX2:Hid ((w1.alloc oo).heap[w.heap.size]?=_):=(Below.heap_alloc _ _ _ (by omega)).trans HX1.out
 have HZ2:Hid ((w1.alloc oo).heap[w.heap.size+1]?=_):=(Below.heap_alloc _ _ _ (by omega)).trans HZ1.out
 have HR2:Hid (Rw (w1.alloc oo) w.heap.size gS gH gF gL kS kH kF kL M):=by
  have h:=HR1.out.below (A7 w1 oo)
  exact⟨ownsRow_le h.s hz0,ownsRow_le h.h hz0,ownsRow_le h.f hz0,ownsRow_le h.l hz0,h.hf,h.hl,h.fl,Nat.le_trans hz0 h.lz⟩
 have HL2:Hid (LoM w1.heap.size gS gH gF gL):=HR1.out.lom
 have HB2:Hid (Below w.heap.size w (w1.alloc oo)):=HB1.out.alloc HB1.out.size _
 have hz2:(w1.alloc oo).heap.size=w1.heap.size+1:=by simp
 obtain⟨q0,q1,q2,q3,q4,q5,qs⟩:=Bc HX2.out
 clear HX1 HZ1 HB1 HR1
 obtain⟨W2,hW2⟩:∃ W2,W2=w1.alloc oo:=⟨_,rfl⟩
 rw[<- hW2] at HO2 HX2 HZ2 HR2 HB2 hz2 q0 q1 q2 q3 q4 q5 qs
 subst hoo
 have HW2:Hid (W2=w1.alloc (.cells #[Y gS M.slots.length kS,Y gH M.heads.length kH,Y gF M.free.length kF,Y gL M.locks.length kL,O J M.now,Y none 0 0] 28)):=hW2
 clear hW2
 go_wp2_with (first|(rw[<- HW2.out];clear HW2))
 clear q0 q1 q2 q3 q4 q5 qs HX2
 go_loopw [13] (fun i wr=>∃ (k:Nat) (lk:List (Tk × TkV)) (v:Value),k<=l.length/\i=O J k/\lk.length=k/\Hid (lk.map (·.1)=(l.take k).map (·.1))/\Hid (wr.heap[w1.heap.size]?=some (.cells #[Y gS M.slots.length kS,Y gH M.heads.length kH,Y gF M.free.length kF,Y gL M.locks.length kL,O J M.now,v] 28 (0,0)))/\Hid (wr.heap[w.heap.size+1]?=some (.cells #[Y none 0 0,Y none 0 0,Y none 0 0,Y none 0 0,O J 0,Y none 0 0] 28 (0,0)))/\Hid (Rw wr w.heap.size gS gH gF gL kS kH kF kL M)/\Hid (Xy wr w1.heap.size v lk)/\Hid (Below w.heap.size w wr))
  (fun i _=>l.length - (intOf i).toNat)
 case atStart=>exact⟨0,[],Y none 0 0,Nat.zero_le _,rfl,rfl,rfl,HO2,HZ2,HR2,a9x _ _,HB2⟩
 case round =>
  obtain⟨k,lk,v,hk,rfl,hlk,HM,HO,HZ,HR,HT,HB⟩:=hrel
  clear HO2 HZ2 HR2 HB2
  by_cases hlt:k<l.length
  ·obtain⟨b,o,rfl⟩:=HR0.out.addr (by omega)
   have HRr:=HR0.out.below HB.out
   have hI:=HRr.held _ (List.getElem_mem hlt)
   have hK:=HRr.keys _ (List.getElem_mem hlt)
   have hrg:=HRr.range hlt
   have hbl:b<wr.heap.size:=cell_lt (HRr.cells hlt).1
   have HMk:Hid ((l.take (k+1)).map (·.1)=(l.take k).map (·.1) ++ [l[k].1]):=by show _=_;rw[List.take_add_one,List.getElem?_eq_getElem hlt,List.map_append];rfl
   generalize l[k]=p at *
   obtain⟨t,p⟩:=p
   dsimp only at hI hK hrg HMk
   have lT:Hid (wr.rangeAt b (o+k*16) (t.enc p)):=hrg
   obtain⟨ot,hot⟩:∃ o:Obj,o=.cells #[.bool t.busy,O J t.f.c.kind,O J t.f.c.a,O J t.f.c.b,O J t.f.c.time,O J t.f.c.bk,O J t.f.c.slot,O J t.f.pl,O J t.f.cur,O J t.f.prev,O J t.f.slot,O J t.f.n,Y p.aK t.f.keys.length p.cK,.bool t.f.done,O J t.f.e,Y p.aH t.held.length p.cH] 49:=⟨_,rfl⟩
   have HT2:Hid ((wr.alloc ot).heap[wr.heap.size]?=some ot):=heap_alloc_new _ _
   have hb2:Below wr.heap.size wr (wr.alloc ot):=A7 _ _
   obtain⟨W3,hW3⟩:∃ W3,W3=wr.alloc ot:=⟨_,rfl⟩
   have hz3:W3.heap.size=wr.heap.size+1:=by rw[hW3];simp
   rw[<- hW3] at HT2 hb2
   have HI3:Hid (Cj W3 p.aH p.cH t.held):=hI.below hb2
   have HK3:Hid (Am W3 p.aK p.cK t.f.keys):=hK.below hb2
   have Hb3:Hid (Below wr.heap.size wr W3):=hb2
   clear hb2 hI hK hrg HRr
   subst hot
   have HW3:Hid (W3=wr.alloc (.cells #[.bool t.busy,O J t.f.c.kind,O J t.f.c.a,O J t.f.c.b,O J t.f.c.time,O J t.f.c.bk,O J t.f.c.slot,O J t.f.pl,O J t.f.cur,O J t.f.prev,O J t.f.slot,O J t.f.n,Y p.aK t.f.keys.length p.cK,.bool t.f.done,O J t.f.e,Y p.aH t.held.length p.cH] 49)):=hW3
   clear hW3
   go_wp2_with (first|(have h9:=lT.out;refine Ud rfl _ rfl rfl h9 ?_;clear h9 lT)|(rw[<- HW3.out];clear HW3))
   rename_i K0 hK0
   obtain⟨iI0,hiI,hzI0,hzI1,hzI2⟩:=info_parts iI
   obtain⟨iK0,hiK,hzK0,hzK1,hzK2⟩:=info_parts iK
   refine Og (by kernel_rfl) (fun x=>⟨#[.agg #[Y aS M.slots.length cS,Y aH M.heads.length cH,Y aF M.free.length cF,Y aL M.locks.length cL,O J M.now,Y (some ⟨b,o,none⟩) l.length cT],.pointer (some ⟨w.heap.size,0,none⟩),.pointer (some ⟨w.heap.size+1,0,none⟩),.pointer (some ⟨w1.heap.size,0,none⟩),Uz,.pointer (some ⟨wr.heap.size,0,none⟩),.pointer (some ⟨w.heap.size,0,none⟩),.agg #[Y aS M.slots.length cS,Y aH M.heads.length cH,Y aF M.free.length cF,Y aL M.locks.length cL,O J M.now],.agg #[Y gS M.slots.length kS,Y gH M.heads.length kH,Y gF M.free.length kF,Y gL M.locks.length kL,O J M.now],.agg #[Y gS M.slots.length kS,Y gH M.heads.length kH,Y gF M.free.length kF,Y gL M.locks.length kL,O J M.now,Y none 0 0],.pointer (some ⟨w.heap.size,5,none⟩),Y (some ⟨b,o,none⟩) l.length cT,O J (l.length:Int),O J (k:Int),.bool true,.pointer (some ⟨b,o+k*16,none⟩),.agg #[.bool t.busy,O J t.f.c.kind,O J t.f.c.a,O J t.f.c.b,O J t.f.c.time,O J t.f.c.bk,O J t.f.c.slot,O J t.f.pl,O J t.f.cur,O J t.f.prev,O J t.f.slot,O J t.f.n,Y p.aK t.f.keys.length p.cK,.bool t.f.done,O J t.f.e,Y p.aH t.held.length p.cH],x 17,x 18,x 19,x 20,x 21,x 22,x 23,x 24,x 25,x 26,x 27,x 28,u29,u30,u31,u32,u33,u34,u35,Uz],[]⟩) rfl [17,18,19,20,21,22,23,24,25,26] (by decide) 10 3 rfl rfl (by kernel_rfl) (by kernel_rfl) (by kernel_rfl) (b3x W3.heap.size wr.heap.size t p) (a5n _ _ _ _) ?_ ?_
   ·intro i hi x V hb hout hpre
    have hTV:=(hb.block _ (lt_of_block HT2.out)).trans HT2.out
    obtain⟨t0,t1,t2,t3,t4,t5,t6,t7,t8,t9,t10,t11,t12,t13,t14,t15,ts⟩:=a0a hTV
    have hI:=HI3.out.below hb
    have hK:=HK3.out.below hb
    have hz:=hb.size
    obtain rfl|rfl|rfl|rfl|rfl|rfl|rfl|rfl|rfl|rfl:i=0\/i=1\/i=2\/i=3\/i=4\/i=5\/i=6\/i=7\/i=8\/i=9:=by omega
    ·exact Ak rfl (Ai rfl) (v:=Y (some ⟨V.heap.size,0,none⟩) 0 0) (w':=V.alloc (.cells #[] 3)) (by simp only[execOp];simp[go_sem]) ⟨_,rfl,⟨_,rfl,Vp V 3 1 _ hz⟩,A7 _ _⟩
    ·exact Ak rfl (Ai rfl) (v:=.pointer (some ⟨wr.heap.size,15,none⟩)) (w':=V) (by simp[execOp,go_sem]) ⟨_,rfl,rfl,Below.refl _ _⟩
    ·have p1:x 18=_:=hpre 1 (by decide) (by kernel_rfl)
     exact Ak rfl (Ai rfl) (v:=Y p.aH t.held.length p.cH) (w':=V) (by simp[execOp,go_sem,p1,t15]) ⟨_,rfl,rfl,Below.refl _ _⟩
    ·obtain⟨g,e0,o0⟩:=hpre 0 (by decide) (by kernel_rfl)
     have e0:x 17=_:=e0
     have p2:x 19=_:=hpre 2 (by decide) (by kernel_rfl)
     have o0:V.ownsRow _ 3 1 (x 17) 0 []:=o0
     rw[e0] at o0
     have m5:=hI.max
     obtain⟨v',V',hr,h2,h3⟩:=Vt (W:=V) W3.heap.size 23 23 3 iI0 (O J 0) 1 8 Tryz.underlying23 hiI hzI0 hzI1 hzI2 rfl (by decide) g o0 p.aH t.held.length p.cH (encI t.held) ((Dq _).trans (Nat.mul_one _).symm) (fun h=>⟨by have:=hI.nil h;have:=hI.le;omega,hI.nil h⟩) hI.src (Gp _) (by unfold maxLen;omega) (by omega) hz
     exact Ak rfl (Ai rfl) (v:=v') (w':=V') (Nw rfl e0 p2 hr) ⟨_,rfl,h2,h3⟩
    ·exact Ak rfl (Ai rfl) (v:=Y (some ⟨V.heap.size,0,none⟩) 0 0) (w':=V.alloc (.cells #[] 30)) (by simp only[execOp];simp[go_sem]) ⟨_,rfl,⟨_,rfl,Vp V 30 2 _ hz⟩,A7 _ _⟩
    ·exact Ak rfl (Ai rfl) (v:=.pointer (some ⟨wr.heap.size,1,none⟩)) (w':=V) (by simp[execOp,go_sem]) ⟨_,rfl,rfl,Below.refl _ _⟩
    ·have p1:x 22=_:=hpre 5 (by decide) (by kernel_rfl)
     exact Ak rfl (Ai rfl) (v:=.pointer (some ⟨wr.heap.size,12,none⟩)) (w':=V) (by simp[execOp,go_sem,p1]) ⟨_,rfl,rfl,Below.refl _ _⟩
    ·have p1:x 23=_:=hpre 6 (by decide) (by kernel_rfl)
     exact Ak rfl (Ai rfl) (v:=Y p.aK t.f.keys.length p.cK) (w':=V) (by simp[execOp,go_sem,p1,t12]) ⟨_,rfl,rfl,Below.refl _ _⟩
    ·obtain⟨g,e0,o0⟩:=hpre 4 (by decide) (by kernel_rfl)
     have e0:x 21=_:=e0
     have p2:x 24=_:=hpre 7 (by decide) (by kernel_rfl)
     have o0:V.ownsRow _ 30 2 (x 21) 0 []:=o0
     rw[e0] at o0
     have m5:=hK.max
     obtain⟨v',V',hr,h2,h3⟩:=Vt (W:=V) W3.heap.size 45 45 30 iK0 (.agg #[O J 0,O J 0]) 2 16 Tryz.underlying45 hiK hzK0 hzK1 hzK2 rfl (by decide) g o0 p.aK t.f.keys.length p.cK (F6 t.f.keys) (Kw _) (fun h=>⟨by have:=hK.nil h;have:=hK.le;omega,hK.nil h⟩) hK.src (Ux _) (by unfold maxLen;omega) (by omega) hz
     exact Ak rfl (Ai rfl) (v:=v') (w':=V') (Nw rfl e0 p2 hr) ⟨_,rfl,h2,h3⟩
    ·exact Ak rfl (Ai rfl) (v:=.pointer (some ⟨wr.heap.size,15,none⟩)) (w':=V) (by simp[execOp,go_sem]) ⟨_,rfl,rfl,Below.refl _ _⟩
   ·intro x V hb hout hφ
    have f3:V.ownsRow W3.heap.size 3 1 (x 20) t.held.length (encI t.held):=hφ 3 (by decide)
    have f8:V.ownsRow W3.heap.size 30 2 (x 25) t.f.keys.length (F6 t.f.keys):=hφ 8 (by decide)
    have f9:x 26=.pointer (some ⟨wr.heap.size,15,none⟩):=hφ 9 (by decide)
    have hTV:=(hb.block _ (lt_of_block HT2.out)).trans HT2.out
    obtain⟨aH',cH',e3⟩:=Aq f3
    obtain⟨aK',cK',e8⟩:=Aq f8
    obtain⟨t0,t1,t2,t3,t4,t5,t6,t7,t8,t9,t10,t11,t12,t13,t14,t15,ts⟩:=a0a hTV
    have z15:=unfrozen_of_block hTV 15
    refine Je rfl (Ai rfl) (w':=V.setCell ⟨wr.heap.size,15,none⟩ (Y aH' t.held.length cH')) (by simp[execOp,go_sem,f9,e3,t15,z15]) ?_
    have T1:(V.setCell ⟨wr.heap.size,15,none⟩ (Y aH' t.held.length cH')).heap[wr.heap.size]?=some (.cells #[.bool t.busy,O J t.f.c.kind,O J t.f.c.a,O J t.f.c.b,O J t.f.c.time,O J t.f.c.bk,O J t.f.c.slot,O J t.f.pl,O J t.f.cur,O J t.f.prev,O J t.f.slot,O J t.f.n,Y (((⟨p.aK,p.cK,aH',cH'⟩:TkV)).aK) t.f.keys.length (((⟨p.aK,p.cK,aH',cH'⟩:TkV)).cK),.bool t.f.done,O J t.f.e,Y ((⟨p.aK,p.cK,aH',cH'⟩:TkV)).aH t.held.length ((⟨p.aK,p.cK,aH',cH'⟩:TkV)).cH] 49 (0,0)):=by
     have:=block_setCell (i:=15) hTV (Y aH' t.held.length cH')
     simpa using this
    have Z1:(V.setCell ⟨wr.heap.size,15,none⟩ (Y aH' t.held.length cH')).heap.size=V.heap.size:=World.size_setCell _ _ _
    have B1:Below wr.heap.size wr (V.setCell ⟨wr.heap.size,15,none⟩ (Y aH' t.held.length cH')):=(Hb3.out.trans (hb.mono (by omega))).setCell (Nat.le_refl _) _
    have O3:(V.setCell ⟨wr.heap.size,15,none⟩ (Y aH' t.held.length cH')).ownsRow W3.heap.size 3 1 (Y aH' t.held.length cH') t.held.length (encI t.held):=ownsRow_setCell_other (e3 ▸ f3) (own_ne (e3 ▸ f3) hTV (by decide)) _
    have O8:(V.setCell ⟨wr.heap.size,15,none⟩ (Y aH' t.held.length cH')).ownsRow W3.heap.size 30 2 (Y aK' t.f.keys.length cK') t.f.keys.length (F6 t.f.keys):=ownsRow_setCell_other (e8 ▸ f8) (own_ne (e8 ▸ f8) hTV (by decide)) _
    generalize V.setCell ⟨wr.heap.size,15,none⟩ (Y aH' t.held.length cH')=V1 at *
    clear t0 t1 t2 t3 t4 t5 t6 t7 t8 t9 t10 t11 t12 t13 t14 t15 ts z15 hTV f3 f8 f9
    obtain⟨t0,t1,t2,t3,t4,t5,t6,t7,t8,t9,t10,t11,t12,t13,t14,t15,ts⟩:=a0a T1
    have z12:=unfrozen_of_block T1 12
    refine Ak rfl (Ai rfl) (v:=.pointer (some ⟨wr.heap.size,1,none⟩)) (w':=V1) (by simp[execOp,go_sem]) ?_
    refine Ak rfl (Ai rfl) (v:=.pointer (some ⟨wr.heap.size,12,none⟩)) (w':=V1) (by simp[execOp,go_sem]) ?_
    refine Je rfl (Ai rfl) (w':=V1.setCell ⟨wr.heap.size,12,none⟩ (Y aK' t.f.keys.length cK')) (by simp[execOp,go_sem,e8,t12,z12]) ?_
    have HT4:Hid ((V1.setCell ⟨wr.heap.size,12,none⟩ (Y aK' t.f.keys.length cK')).heap[wr.heap.size]?=some (.cells #[.bool t.busy,O J t.f.c.kind,O J t.f.c.a,O J t.f.c.b,O J t.f.c.time,O J t.f.c.bk,O J t.f.c.slot,O J t.f.pl,O J t.f.cur,O J t.f.prev,O J t.f.slot,O J t.f.n,Y (((⟨aK',cK',aH',cH'⟩:TkV)).aK) t.f.keys.length (((⟨aK',cK',aH',cH'⟩:TkV)).cK),.bool t.f.done,O J t.f.e,Y ((⟨aK',cK',aH',cH'⟩:TkV)).aH t.held.length ((⟨aK',cK',aH',cH'⟩:TkV)).cH] 49 (0,0))):=by
     have:=block_setCell (i:=12) T1 (Y aK' t.f.keys.length cK')
     show _=_
     simpa using this
    have HB4:Hid (Below wr.heap.size wr (V1.setCell ⟨wr.heap.size,12,none⟩ (Y aK' t.f.keys.length cK'))):=B1.setCell (Nat.le_refl _) _
    have HO3:Hid ((V1.setCell ⟨wr.heap.size,12,none⟩ (Y aK' t.f.keys.length cK')).ownsRow W3.heap.size 3 1 (Y aH' t.held.length cH') t.held.length (encI t.held)):=ownsRow_setCell_other O3 (own_ne O3 T1 (by decide)) _
    have HO8:Hid (Dk (V1.setCell ⟨wr.heap.size,12,none⟩ (Y aK' t.f.keys.length cK')) W3.heap.size aK' cK' t.f.keys):=⟨ownsRow_setCell_other O8 (own_ne O8 T1 (by decide)) _⟩
    clear t0 t1 t2 t3 t4 t5 t6 t7 t8 t9 t10 t11 t12 t13 t14 t15 ts z12 O3 O8 B1 Z1 hout hφ HI3 HK3 HT2 Hb3 hb
    refine hK0 _ _ ?_
    generalize V1.setCell ⟨wr.heap.size,12,none⟩ (Y aK' t.f.keys.length cK')=V2 at *
    clear T1 e3 e8
    obtain⟨iT0,hiT,hzT0,hzT1,hzT2⟩:=info_parts iT
    have hw1:w1.heap.size<wr.heap.size:=lt_of_block HO.out
    have HOV:V2.heap[w1.heap.size]?=_:=(HB4.out.block _ hw1).trans HO.out
    obtain⟨y0,y1,y2,y3,y4,y5,ys⟩:=Bc HOV
    have lT2:Hid (V2.rangeAt wr.heap.size 0 (t.enc ⟨aK',cK',aH',cH'⟩)):=Au HT4.out rfl
    have HTw:Hid (V2.ownsRow w1.heap.size 49 16 v lk.length (Ep lk)):=Bj HT.out.row fun g hg=>HB4.out.block g (HT.out.row.lt g hg).2
    obtain⟨ov,hov⟩:∃ o:Obj,o=.cells #[.bool t.busy,O J t.f.c.kind,O J t.f.c.a,O J t.f.c.b,O J t.f.c.time,O J t.f.c.bk,O J t.f.c.slot,O J t.f.pl,O J t.f.cur,O J t.f.prev,O J t.f.slot,O J t.f.n,Y (((⟨aK',cK',aH',cH'⟩:TkV)).aK) t.f.keys.length (((⟨aK',cK',aH',cH'⟩:TkV)).cK),.bool t.f.done,O J t.f.e,Y ((⟨aK',cK',aH',cH'⟩:TkV)).aH t.held.length ((⟨aK',cK',aH',cH'⟩:TkV)).cH] 49:=⟨_,rfl⟩
    have HC:Hid (∀ j u,(t.enc ⟨aK',cK',aH',cH'⟩)[j]?=some u->(V2.alloc ov).cell? ((⟨V2.heap.size,0,none⟩:Addr).add j)=some u):=fun j u h=>by
     rw[hov,Addr.add_lit,Nat.zero_add]
     exact(cell_of_block (heap_alloc_new V2 _) j).trans (by simpa [Tk.enc,Fr.enc] using h)
    have hzV:wr.heap.size+1<=V2.heap.size:=lt_of_block HT4.out
    have HOW:Hid ((V2.alloc ov).heap[w1.heap.size]?=some (.cells #[Y gS M.slots.length kS,Y gH M.heads.length kH,Y gF M.free.length kF,Y gL M.locks.length kL,O J M.now,v] 28 (0,0))):=(Below.heap_alloc _ _ _ ys).trans HOV
    have HTa:Hid ((V2.alloc ov).ownsRow w1.heap.size 49 16 v lk.length (Ep lk)):=HTw.out.alloc _
    have HBa:Hid (Below wr.heap.size wr (V2.alloc ov)):=HB4.out.alloc (by omega) _
    have H3a:Hid ((V2.alloc ov).ownsRow W3.heap.size 3 1 (Y aH' t.held.length cH') t.held.length (encI t.held)):=HO3.out.alloc _
    have H8a:Hid (Dk (V2.alloc ov) W3.heap.size aK' cK' t.f.keys):=HO8.out.below (A7 _ _)
    have hza:(V2.alloc ov).heap.size=V2.heap.size+1:=by simp
    obtain⟨V3,hV3⟩:∃ V3,V3=V2.alloc ov:=⟨_,rfl⟩
    rw[<- hV3] at HC HOW HTa HBa H3a H8a hza
    subst hov
    have HV3:Hid (V3=V2.alloc (.cells #[.bool t.busy,O J t.f.c.kind,O J t.f.c.a,O J t.f.c.b,O J t.f.c.time,O J t.f.c.bk,O J t.f.c.slot,O J t.f.pl,O J t.f.cur,O J t.f.prev,O J t.f.slot,O J t.f.n,Y (((⟨aK',cK',aH',cH'⟩:TkV)).aK) t.f.keys.length (((⟨aK',cK',aH',cH'⟩:TkV)).cK),.bool t.f.done,O J t.f.e,Y ((⟨aK',cK',aH',cH'⟩:TkV)).aH t.held.length ((⟨aK',cK',aH',cH'⟩:TkV)).cH] 49)):=hV3
    clear hV3 HTw HO3 HO8 HB4 HT4 HOV
    have hlk2:lk.length=k:=hlk
    have H6:Hid (∀ v6 w6,w6.ownsRow w1.heap.size 49 16 v6 (lk.length+1) (Ep lk++t.enc ⟨aK',cK',aH',cH'⟩)->V3.grownBy w6 v.ownBlock->w6.heap[w1.heap.size]?=some (.cells #[Y gS M.slots.length kS,Y gH M.heads.length kH,Y gF M.free.length kF,Y gL M.locks.length kL,O J M.now,v] 28 (0,0)) /\
      (∀ k,k<wr.heap.size->k≠w1.heap.size->v.ownBlock≠some k->(w6.setCell ⟨w1.heap.size,5,none⟩ v6).heap[k]?=wr.heap[k]?)/\(w6.setCell ⟨w1.heap.size,5,none⟩ v6).ownsRow W3.heap.size 3 1 (Y aH' t.held.length cH') t.held.length (encI t.held)/\Dk (w6.setCell ⟨w1.heap.size,5,none⟩ v6) W3.heap.size aK' cK' t.f.keys/\(w6.setCell ⟨w1.heap.size,5,none⟩ v6).ownsRow w1.heap.size 49 16 v6 (lk.length+1) (Ep lk++t.enc ⟨aK',cK',aH',cH'⟩)):=fun v6 w6 ho hg=>by
     have hbox:w6.heap[w1.heap.size]?=some (.cells #[Y gS M.slots.length kS,Y gH M.heads.length kH,Y gF M.free.length kF,Y gL M.locks.length kL,O J M.now,v] 28 (0,0)):=(hg.block _ (by omega) (own_ne HTa.out HOW.out (by decide)).symm).trans HOW.out
     have o3:w6.ownsRow W3.heap.size 3 1 (Y aH' t.held.length cH') t.held.length (encI t.held):=Bj H3a.out fun g h=>hg.block g (H3a.out.lt g h).2 (fun e=>Cf H3a.out HTa.out (by decide) g h e.symm)
     have o8:w6.ownsRow W3.heap.size 30 2 (Y aK' t.f.keys.length cK') t.f.keys.length (F6 t.f.keys):=Bj H8a.out.own fun g h=>hg.block g (H8a.out.own.lt g h).2 (fun e=>Cf H8a.out.own HTa.out (by decide) g h e.symm)
     exact⟨hbox,fun k hk hne hv=>(Below.heap_setCell _ _ _ _ (by dsimp only;exact hne)).trans ((hg.block k (by omega) hv.symm).trans (HBa.out.block k hk)),ownsRow_setCell_other o3 (own_ne o3 hbox (by decide)) _,⟨ownsRow_setCell_other o8 (own_ne o8 hbox (by decide)) _⟩,ownsRow_setCell_other ho (own_ne ho hbox (by decide)) _⟩
    dsimp only[Act.put]
    go_wp2_with (first|(have h9:=lT2.out;refine Ud rfl (.tmp 5) rfl rfl h9 ?_;clear h9 lT2)|(rw[<- HV3.out];clear HV3)|(at_builtin;refine wpList_append_own_at _ rfl (.tmp 30) (.tmp 32) 26 rfl w1.heap.size 49 iT0 (.agg #[.bool false,O J 0,O J 0,O J 0,O J 0,O J 0,O J 0,O J 0,O J 0,O J 0,O J 0,O J 0,Y none 0 0,.bool false,O J 0,Y none 0 0]) 16 160 Tryz.underlying26 hiT hzT0 hzT1 hzT2 rfl (by decide) v lk.length (Ep lk) rfl HTa.out ⟨V2.heap.size,0,none⟩ 1 1 (t.enc ⟨aK',cK',aH',cH'⟩) rfl rfl HC.out (by intro u hu;simp only[Tk.enc,Fr.enc,List.cons_append,List.nil_append,List.mem_cons,List.not_mem_nil,or_false] at hu;rcases hu with rfl|rfl|rfl|rfl|rfl|rfl|rfl|rfl|rfl|rfl|rfl|rfl|rfl|rfl|rfl|rfl <;> rfl) (by unfold maxLen;omega) (by omega) (by omega) ?_;intro v6 w6 ho6 hg6 _ _;obtain⟨hx6,hs6,h36,h86,hr6⟩:=H6.out v6 w6 ho6 hg6;obtain⟨a6,c6,rfl⟩:=Aq ho6;have r5:=(cell_of_block hx6 5).trans rfl;have z5:=unfrozen_of_block hx6 5;have hz6:V3.heap.size<=w6.heap.size:=hg6.size;have Hhx:Hid (w6.heap[w1.heap.size]?=some (.cells #[Y gS M.slots.length kS,Y gH M.heads.length kH,Y gF M.free.length kF,Y gL M.locks.length kL,O J M.now,v] 28 (0,0))):=hx6;have Hhs:Hid (∀ k,k<wr.heap.size->k≠w1.heap.size->v.ownBlock≠some k->(w6.setCell ⟨w1.heap.size,5,none⟩ (Y a6 (lk.length+1) c6)).heap[k]?=wr.heap[k]?):=hs6;have Hh3:Hid ((w6.setCell ⟨w1.heap.size,5,none⟩ (Y a6 (lk.length+1) c6)).ownsRow W3.heap.size 3 1 (Y aH' t.held.length cH') t.held.length (encI t.held)):=h36;have Hh8:Hid (Dk (w6.setCell ⟨w1.heap.size,5,none⟩ (Y a6 (lk.length+1) c6)) W3.heap.size aK' cK' t.f.keys):=h86;have Hhr:Hid ((w6.setCell ⟨w1.heap.size,5,none⟩ (Y a6 (lk.length+1) c6)).ownsRow w1.heap.size 49 16 (Y a6 (lk.length+1) c6) (lk.length+1) (Ep lk++t.enc ⟨aK',cK',aH',cH'⟩)):=hr6;have Hos:Hid (w6.os=wr.os/\w6.tape=wr.tape/\w6.output=wr.output):=⟨hg6.os.trans HBa.out.os,hg6.tape.trans HBa.out.tape,hg6.output.trans HBa.out.output⟩;clear hx6 hs6 h36 h86 hr6 ho6 hg6 H6 HTa HC HOW H3a H8a))
    go_roundw
    case rel =>
     clear hlk2
     subst hlk
     have hX6:(w6.setCell ⟨w1.heap.size,5,none⟩ (Y a6 (lk.length+1) c6)).heap[w1.heap.size]?=some (.cells #[Y gS M.slots.length kS,Y gH M.heads.length kH,Y gF M.free.length kF,Y gL M.locks.length kL,O J M.now,Y a6 (lk.length+1) c6] 28 (0,0)):=by
      have:=block_setCell (i:=5) Hhx.out (Y a6 (lk.length+1) c6)
      simpa using this
     have hz7:wr.heap.size<=(w6.setCell ⟨w1.heap.size,5,none⟩ (Y a6 (lk.length+1) c6)).heap.size:=by rw[World.size_setCell];omega
     have hl1:w1.heap.size<=wr.heap.size:=Nat.le_of_lt hw1
     have hlt1:wr.heap.size<=W3.heap.size:=by omega
     refine⟨lk.length+1,lk ++ [(t,⟨aK',cK',aH',cH'⟩)],_,by omega,by go_num,by simp,?_,hX6,?_,HR.out.kept HT.out.row HO.out Hhs.out hz7,HT.out.snoc HO.out Hhs.out hl1 Hhr.out (ownsRow_le Hh3.out hlt1) (Hh8.out.le hlt1),?_⟩
     ·show _=_
      rw[HMk.out,List.map_append,HM.out];rfl
     ·have hzz:=lt_of_block HZ.out
      exact(Hhs.out _ hzz (by omega) (fun e=>by have:=(HT.out.row.lt _ e).1;omega)).trans HZ.out
     ·refine⟨Hos.out.1.trans HB.out.os,Hos.out.2.1.trans HB.out.tape,Hos.out.2.2.trans HB.out.output,Nat.le_trans HB.out.size hz7,fun j hj=>?_⟩
      have:=HB.out.size
      exact(Hhs.out j (by omega) (by omega) (fun e=>by have:=(HT.out.row.lt _ e).1;omega)).trans (HB.out.block j hj)
    case measure=>simp[intOf];omega
  ·have hkE:k=l.length:=by omega
   subst hkE
   obtain⟨av,cv,rfl⟩:=Aq HT.out.row
   have l6:Hid (wr.rangeAt w1.heap.size 0 [Y gS M.slots.length kS,Y gH M.heads.length kH,Y gF M.free.length kF,Y gL M.locks.length kL,O J M.now,Y av lk.length cv]):=Au HO.out rfl
   have t6:Hid (wr.there (w.heap.size+1) 0 6):=Az HZ.out (by simp)
   have hne:w1.heap.size≠w.heap.size+1:=by omega
   obtain⟨W9,hW9⟩:∃ W9,W9=wr.setCells (w.heap.size+1) 0 [Y gS M.slots.length kS,Y gH M.heads.length kH,Y gF M.free.length kF,Y gL M.locks.length kL,O J M.now,Y av lk.length cv]:=⟨_,rfl⟩
   have ho9:∀ j,j≠w.heap.size+1->W9.heap[j]?=wr.heap[j]?:=fun j hj=>by rw[hW9];exact Ad hj _ _ _
   have HZ9:Hid (W9.heap[w.heap.size+1]?=some (.cells #[Y gS M.slots.length kS,Y gH M.heads.length kH,Y gF M.free.length kF,Y gL M.locks.length kL,O J M.now,Y av lk.length cv] 28 (0,0))):=by show _=_;rw[hW9];exact Bi HZ.out rfl
   have hz9:W9.heap.size=wr.heap.size:=by rw[hW9];exact setCells_size _ _ _
   have HF:Hid (b3b w M (l.map (·.1)) (.returned (.agg #[Y gS M.slots.length kS,Y gH M.heads.length kH,Y gF M.free.length kF,Y gL M.locks.length kL,O J M.now,Y av lk.length cv])) W9):=by
    have q:∀ {lo e size n:Nat} {u:Value} {xs:List Value},wr.ownsRow lo e size u n xs->e≠28->W9.ownsRow lo e size u n xs:=fun {lo e size n u xs} h he=>Bj h fun g hg=>ho9 g (fun e'=>own_ne h HZ.out he (by rw[hg,e']))
    have R:=HR.out;have T:=HT.out
    refine⟨gS,gH,gF,gL,kS,kH,kF,kL,av,cv,lk,w1.heap.size,rfl,⟨q R.s (by decide),q R.h (by decide),q R.f (by decide),q R.l (by decide),R.hf,R.hl,R.fl,by rw[hz9];exact R.lz⟩,HL2.out,⟨q T.row (by decide),fun p hp=>q (T.held p hp) (by decide),fun p hp=>⟨q (T.keys p hp).own (by decide)⟩,T.dj⟩,?_,by omega,?_⟩
    ·rw[HM.out,List.take_length]
    ·rw[hW9];exact Aw HB.out (by omega)
   clear HM HO HZ HR HT HB ho9 hz9
   go_wp2_with (first|(have h9:=l6.out;refine Ha rfl (.tmp 3) rfl rfl h9 ?_;clear h9 l6)|(refine Gz rfl (.tmp 2) (.tmp 36) rfl rfl rfl t6.out (by kernel_rfl) ?_;rw[<- hW9];clear hW9 t6))
   obtain⟨r0,r1,r2,r3,r4,r5,rs⟩:=Bc HZ9.out
   refine bodyPost_ret (v:=.agg #[Y gS M.slots.length kS,Y gH M.heads.length kH,Y gF M.free.length kF,Y gL M.locks.length kL,O J M.now,Y av lk.length cv]) (by simp[results,Tryz.results14,go_sem,r0,r1,r2,r3,r4,r5]) rfl HF.out
end
end Go.Proofs.YthhgoenomehobaaGreat.mm
