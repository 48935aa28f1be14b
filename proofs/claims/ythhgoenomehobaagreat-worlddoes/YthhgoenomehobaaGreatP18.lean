/- Parts. -/
import Derived.Test.YthhgoenomehobaaGreatP10
import Derived.Test.YthhgoenomehobaaGreatP12
import Derived.Test.YthhgoenomehobaaGreatP01
import Derived.Deep.MidRow
import Derived.Test.YthhgoenomehobaaGreatP04
import Derived.Test.YthhgoenomehobaaGreatP11
import Derived.Test.YthhgoenomehobaaGreatP09
import Derived.Lib.SliceRun
import Derived.Laws.OwnMore
import Derived.Laws.IdiomCopy
namespace Go.Proofs.YthhgoenomehobaaGreat.mm
set_option maxRecDepth 100000
set_option linter.unusedVariables false
open Go.Value renaming int → O, slice → Y
open Go.IntKind renaming i64 → J
open Go.Proofs.Tryz renaming prog → Pg
open Go renaming undef → Uz, World → Wq
open Go.ChangeShapes Go.WideShapes Go.ChangeAt Go.RowKit Go.Joins
set_option maxHeartbeats 6400000
section
structure TkV where
 aK:Option Addr
 cK:Nat
 aH:Option Addr
 cH:Nat
def Fr.enc(f:Fr)(aK:Option Addr)(cK:Nat):List Value :=
 [O J f.c.kind,O J f.c.a,O J f.c.b,O J f.c.time,O J f.c.bk,O J f.c.slot,O J f.pl,O J f.cur,O J f.prev,O J f.slot,O J f.n,Y aK f.keys.length cK,.bool f.done,O J f.e]
def Tk.enc(t:Tk)(p:TkV):List Value:=.bool t.busy :: (t.f.enc p.aK p.cK ++ [Y p.aH t.held.length p.cH])
theorem Fr.Gv(f:Fr)(aK:Option Addr)(cK:Nat):(f.enc aK cK).length=14:=rfl
theorem Tk.Gv(t:Tk)(p:TkV):(t.enc p).length=16:=rfl
structure Ef(w:Wq)(ao:Option Addr)(cap:Nat)(l:List (Tk × TkV)):Prop where
 le:l.length<=cap
 max:l.length*160<=140737488351232
 nil:ao=none->cap=0
 at_:l.length=0\/∃ b o,ao=some ⟨b,o,none⟩/\∀ i (h:i<l.length) q,q<16->w.cell? ⟨b,o+i*16+q,none⟩=(l[i].1.enc l[i].2)[q]?
 keys:∀ p∈l,Am w p.2.aK p.2.cK p.1.f.keys
 held:∀ p∈l,Cj w p.2.aH p.2.cH p.1.held
theorem a0e(w:Wq):Ef w none 0 []:=⟨by decide,by decide,fun _=>rfl,.inl rfl,(fun _ h=>by cases h),(fun _ h=>by cases h)⟩
theorem Qp(t:Tk)(p:TkV){q:Nat}(h:q<16):∃ v,(t.enc p)[q]?=some v:=⟨_,List.getElem?_eq_getElem (by rw[Tk.Gv];exact h)⟩
theorem Ef.below{w w':Wq}{ao:Option Addr}{cap:Nat}{l:List (Tk × TkV)}(r:Ef w ao cap l)(hb:Below w.heap.size w w'):Ef w' ao cap l:=by
 refine⟨r.le,r.max,r.nil,?_,fun p hp=>(r.keys p hp).below hb,fun p hp=>(r.held p hp).below hb⟩
 rcases r.at_ with h|⟨b,o,h,hc⟩
 ·exact .inl h
 ·refine .inr ⟨b,o,h,fun i hi q hq=>?_⟩
  obtain⟨v,hv⟩:=Qp l[i].1 l[i].2 hq
  have c:=(hc i hi q hq).trans hv
  exact((Bv hb).1 _ _ (cell_lt c)).trans (hc i hi q hq)
theorem Ef.cells{w:Wq}{b o cap:Nat}{l:List (Tk × TkV)}(r:Ef w (some ⟨b,o,none⟩) cap l){i:Nat}(h:i<l.length) :
  w.cell? ⟨b,o+i*16,none⟩=some (.bool l[i].1.busy)/\w.cell? ⟨b,o+i*16+1,none⟩=some (O J l[i].1.f.c.kind)/\w.cell? ⟨b,o+i*16+2,none⟩=some (O J l[i].1.f.c.a) /\
  w.cell? ⟨b,o+i*16+3,none⟩=some (O J l[i].1.f.c.b)/\w.cell? ⟨b,o+i*16+4,none⟩=some (O J l[i].1.f.c.time)/\w.cell? ⟨b,o+i*16+5,none⟩=some (O J l[i].1.f.c.bk) /\
  w.cell? ⟨b,o+i*16+6,none⟩=some (O J l[i].1.f.c.slot)/\w.cell? ⟨b,o+i*16+7,none⟩=some (O J l[i].1.f.pl)/\w.cell? ⟨b,o+i*16+8,none⟩=some (O J l[i].1.f.cur) /\
  w.cell? ⟨b,o+i*16+9,none⟩=some (O J l[i].1.f.prev)/\w.cell? ⟨b,o+i*16+10,none⟩=some (O J l[i].1.f.slot)/\w.cell? ⟨b,o+i*16+11,none⟩=some (O J l[i].1.f.n) /\
  w.cell? ⟨b,o+i*16+12,none⟩=some (Y l[i].2.aK l[i].1.f.keys.length l[i].2.cK)/\w.cell? ⟨b,o+i*16+13,none⟩=some (.bool l[i].1.f.done)/\w.cell? ⟨b,o+i*16+14,none⟩=some (O J l[i].1.f.e) /\
  w.cell? ⟨b,o+i*16+15,none⟩=some (Y l[i].2.aH l[i].1.held.length l[i].2.cH):=by
 rcases r.at_ with h0|⟨b',o',e,hc⟩
 ·omega
 injection e with e
 injection e with e1 e2
 subst e1 e2
 have c:=hc i h
 exact⟨c 0 (by omega),c 1 (by omega),c 2 (by omega),c 3 (by omega),c 4 (by omega),c 5 (by omega),c 6 (by omega),c 7 (by omega),c 8 (by omega),c 9 (by omega),c 10 (by omega),c 11 (by omega),c 12 (by omega),c 13 (by omega),c 14 (by omega),c 15 (by omega)⟩
theorem Ef.addr{w:Wq}{ao:Option Addr}{cap:Nat}{l:List (Tk × TkV)}(r:Ef w ao cap l)(h:l.length≠0):∃ b o,ao=some ⟨b,o,none⟩:=by
 rcases r.at_ with h0|⟨b,o,e,_⟩
 ·exact absurd h0 h
 ·exact⟨b,o,e⟩
structure THi(lo:Nat)(ao:Option Addr)(l:List (Tk × TkV)):Prop where
 row:∀ ad,ao=some ad->lo<=ad.block
 keys:∀ p∈l,∀ ad,p.2.aK=some ad->lo<=ad.block
 held:∀ p∈l,∀ ad,p.2.aH=some ad->lo<=ad.block
theorem THi.mono{lo lo':Nat}{ao:Option Addr}{l:List (Tk × TkV)}(h:THi lo ao l)(hl:lo'<=lo):THi lo' ao l :=
 ⟨fun a e=>Nat.le_trans hl (h.row a e),fun p hp a e=>Nat.le_trans hl (h.keys p hp a e),fun p hp a e=>Nat.le_trans hl (h.held p hp a e)⟩
def D8(lo:Nat)(w:Wq)(v:Value)(W:Wd):Prop :=
 ∃ aS aH aF aL cS cH cF cL aT cT l,v=.agg #[Y aS W.m.slots.length cS,Y aH W.m.heads.length cH,Y aF W.m.free.length cF,Y aL W.m.locks.length cL,O J W.m.now,Y aT W.ts.length cT] /\
  At w aS aH aF aL cS cH cF cL W.m/\Hi4 lo aS aH aF aL/\W.ts=l.map (·.1)/\Ef w aT cT l/\THi lo aT l
theorem D8.below{lo:Nat}{w w':Wq}{v:Value}{W:Wd}(h:D8 lo w v W)(hb:Below w.heap.size w w'):D8 lo w' v W:=by
 obtain⟨aS,aH,aF,aL,cS,cH,cF,cL,aT,cT,l,e,A,hi,el,r,th⟩:=h
 exact⟨aS,aH,aF,aL,cS,cH,cF,cL,aT,cT,l,e,A.below hb,hi,el,r.below hb,th⟩
theorem D8.mono{lo lo':Nat}{w:Wq}{v:Value}{W:Wd}(h:D8 lo w v W)(hl:lo'<=lo):D8 lo' w v W:=by
 obtain⟨aS,aH,aF,aL,cS,cH,cF,cL,aT,cT,l,e,A,hi,el,r,th⟩:=h
 exact⟨aS,aH,aF,aL,cS,cH,cF,cL,aT,cT,l,e,A,hi.mono hl,el,r,th.mono hl⟩
end
section
def hdE(m:Mm)(a:Int):Int:=if Dc m a then 0 else 5
def tkE(m:Mm)(t:Tk):Int :=
 if 100<t.held.length then 2 else if Ah (hdE m) t.held≠0 then Ah (hdE m) t.held else if t.busy then frE m.slots.length m.heads.length t.f else 0
def wE(W:Wd):Int:=if chk W.m≠0 then chk W.m else if W.ts.length<1\/5<W.ts.length then 3 else Ah (tkE W.m) W.ts
theorem a9z{W:Wd}(h:chk W.m≠0):wE W=chk W.m:=by unfold wE;rw[if_pos h]
theorem a3r{W:Wd}(h:chk W.m=0)(hn:W.ts.length<1\/5<W.ts.length):wE W=3:=by unfold wE;rw[if_neg (by simpa using h),if_pos hn]
theorem a3q{W:Wd}(h:chk W.m=0)(hn:¬ (W.ts.length<1\/5<W.ts.length)):wE W=Ah (tkE W.m) W.ts:=by unfold wE;rw[if_neg (by simpa using h),if_neg hn]
theorem Po{α β:Type}(f:β->Int)(g:α->β):∀ l:List α,Ah f (l.map g)=Ah (fun x=>f (g x)) l
 | []=>rfl
 | x :: l=>by simp only[List.map_cons,Ah];rw[Po f g l]
theorem Vy{m:Mm}{t:Tk}(h:100<t.held.length):tkE m t=2:=by unfold tkE;rw[if_pos h]
theorem Vx{m:Mm}{t:Tk}(h:¬ 100<t.held.length)(he:Ah (hdE m) t.held=5):tkE m t=5:=by unfold tkE;rw[if_neg h,he];rfl
theorem a0b{m:Mm}{t:Tk}(h:¬ 100<t.held.length)(he:Ah (hdE m) t.held=0)(hb:t.busy=true):tkE m t=frE m.slots.length m.heads.length t.f:=by
 unfold tkE;rw[if_neg h,he,if_neg (by simp),if_pos hb]
theorem a0c{m:Mm}{t:Tk}(h:¬ 100<t.held.length)(he:Ah (hdE m) t.held=0)(hb:t.busy=false):tkE m t=0:=by
 unfold tkE;rw[if_neg h,he,if_neg (by simp),if_neg (by simp[hb])]
theorem Jd{W:Wd}:wE W=0 ↔ chk W.m=0/\1<=W.ts.length/\W.ts.length<=5/\∀ t∈W.ts,tkE W.m t=0:=by
 unfold wE
 by_cases h:chk W.m=0
 ·rw[if_neg (by simpa using h)]
  by_cases hn:W.ts.length<1\/5<W.ts.length
  ·rw[if_pos hn]
   constructor
   ·intro h;cases h
   ·rintro ⟨_,h1,h2,_⟩;omega
  ·rw[if_neg hn,Fv]
   exact⟨fun h'=>⟨h,by omega,by omega,h'⟩,fun h'=>h'.2.2.2⟩
 ·rw[if_pos h]
  exact⟨fun h'=>absurd h' h,fun h'=>absurd h'.1 h⟩
theorem Vd{m:Mm}{l:List Int}:Ah (hdE m) l=0 ↔ ∀ a∈l,Dc m a=true:=by
 rw[Fv]
 constructor
 ·intro h a ha
  have:=h a ha
  unfold hdE at this
  cases hs:Dc m a
  ·rw[hs] at this;cases this
  ·rfl
 ·intro h a ha
  unfold hdE
  rw[h a ha];rfl
theorem Oc{m:Mm}{t:Tk}:tkE m t=0 ↔ t.held.length<=100/\(∀ a∈t.held,Dc m a=true)/\(t.busy=true->frE m.slots.length m.heads.length t.f=0):=by
 unfold tkE
 by_cases h:100<t.held.length
 ·rw[if_pos h]
  exact⟨fun h'=>(by cases h'),fun h'=>absurd h'.1 (by omega)⟩
 ·rw[if_neg h]
  by_cases he:Ah (hdE m) t.held=0
  ·rw[he,if_neg (by simp)]
   cases hb:t.busy
   ·exact⟨fun _=>⟨by omega,Vd.1 he,(fun h=>by cases h)⟩,fun _=>rfl⟩
   ·exact⟨fun h'=>⟨by omega,Vd.1 he,fun _=>h'⟩,fun h'=>h'.2.2 rfl⟩
  ·rw[if_pos he]
   exact⟨fun h'=>absurd h' he,fun h'=>absurd (Vd.2 h'.2.1) he⟩
theorem Bc{w:Wq}{B:Nat}{v0 v1 v2 v3 v4 v5:Value}{t:TypeId}(h:w.heap[B]?=some (.cells #[v0,v1,v2,v3,v4,v5] t (0,0))) :
  w.cell? ⟨B,0,none⟩=some v0/\w.cell? ⟨B,1,none⟩=some v1/\w.cell? ⟨B,2,none⟩=some v2/\w.cell? ⟨B,3,none⟩=some v3/\w.cell? ⟨B,4,none⟩=some v4/\w.cell? ⟨B,5,none⟩=some v5/\B<w.heap.size :=
 ⟨by rw[cell_of_block h];rfl,by rw[cell_of_block h];rfl,by rw[cell_of_block h];rfl,by rw[cell_of_block h];rfl,by rw[cell_of_block h];rfl,by rw[cell_of_block h];rfl,lt_of_block h⟩
theorem a0a{w:Wq}{B:Nat}{v0 v1 v2 v3 v4 v5 v6 v7 v8 v9 v10 v11 v12 v13 v14 v15:Value}{t:TypeId}(h:w.heap[B]?=some (.cells #[v0,v1,v2,v3,v4,v5,v6,v7,v8,v9,v10,v11,v12,v13,v14,v15] t (0,0))) :
  w.cell? ⟨B,0,none⟩=some v0/\w.cell? ⟨B,1,none⟩=some v1/\w.cell? ⟨B,2,none⟩=some v2/\w.cell? ⟨B,3,none⟩=some v3/\w.cell? ⟨B,4,none⟩=some v4/\w.cell? ⟨B,5,none⟩=some v5 /\
  w.cell? ⟨B,6,none⟩=some v6/\w.cell? ⟨B,7,none⟩=some v7/\w.cell? ⟨B,8,none⟩=some v8/\w.cell? ⟨B,9,none⟩=some v9/\w.cell? ⟨B,10,none⟩=some v10/\w.cell? ⟨B,11,none⟩=some v11 /\
  w.cell? ⟨B,12,none⟩=some v12/\w.cell? ⟨B,13,none⟩=some v13/\w.cell? ⟨B,14,none⟩=some v14/\w.cell? ⟨B,15,none⟩=some v15/\B<w.heap.size :=
 ⟨by rw[cell_of_block h];rfl,by rw[cell_of_block h];rfl,by rw[cell_of_block h];rfl,by rw[cell_of_block h];rfl,by rw[cell_of_block h];rfl,by rw[cell_of_block h];rfl,by rw[cell_of_block h];rfl,by rw[cell_of_block h];rfl,by rw[cell_of_block h];rfl,by rw[cell_of_block h];rfl,by rw[cell_of_block h];rfl,by rw[cell_of_block h];rfl,by rw[cell_of_block h];rfl,by rw[cell_of_block h];rfl,by rw[cell_of_block h];rfl,by rw[cell_of_block h];rfl,lt_of_block h⟩
end
section
theorem Au{w:Wq}{B o:Nat}{cs:Array Value}{t:TypeId}{fr:Nat × Nat}{vs:List Value}(h:w.heap[B]?=some (.cells cs t fr))(e:(cs.extract o (o+vs.length)).toList=vs):w.rangeAt B o vs:=by
 have:=World.rangeAt_of_block h o vs.length
 rw[e] at this
 exact this
theorem Az{w:Wq}{B o n:Nat}{cs:Array Value}{t:TypeId}(h:w.heap[B]?=some (.cells cs t (0,0)))(e:o+n<=cs.size):w.there B o n:=fun j hj=>by
 refine⟨?_,unfrozen_of_block h _⟩
 rw[cell_of_block h]
 simp;omega
theorem Dp{w w':Wq}{B o n:Nat}{vs:List Value}(h:w.rangeAt B o vs)(hb:Below n w w')(hB:B<n):w'.rangeAt B o vs:=fun j v hv=>((Bv hb).1 _ _ hB).trans (h j v hv)
theorem Ef.range{w:Wq}{b o cap:Nat}{l:List (Tk × TkV)}(r:Ef w (some ⟨b,o,none⟩) cap l){i:Nat}(h:i<l.length):w.rangeAt b (o+i*16) (l[i].1.enc l[i].2):=fun j v hv=>by
 have hj:j<16:=by
  have:=(List.getElem?_eq_some_iff.1 hv).1
  rwa [Tk.Gv] at this
 rcases r.at_ with h0|⟨b',o',e,hc⟩
 ·omega
 injection e with e
 injection e with e1 e2
 subst e1 e2
 exact(hc i h j hj).trans hv
theorem Ud{ops:Array Oper}{rest:List Oper}{op:Oper}{a:Act}{w:Wq}{Q:Exit->Act->Wq->Prop}{t:Tk}{p:TkV}{B o:Nat}(hgd:op.guard=none)(x:Operand)(ho:op.op=.load 49 x)(hx:a.eval x=.pointer (some ⟨B,o,none⟩))(h:w.rangeAt B o (t.enc p))(K:wpList Pg ops Q rest (a.put op.dst (.agg #[.bool t.busy,O J t.f.c.kind,O J t.f.c.a,O J t.f.c.b,O J t.f.c.time,O J t.f.c.bk,O J t.f.c.slot,O J t.f.pl,O J t.f.cur,O J t.f.prev,O J t.f.slot,O J t.f.n,Y p.aK t.f.keys.length p.cK,.bool t.f.done,O J t.f.e,Y p.aH t.held.length p.cH])) w):wpList Pg ops Q (op :: rest) a w :=
 wpList_load_mid hgd 49 x ho B o hx (t.enc p) _ h Tryz.underlying49 rfl (by kernel_rfl) K
theorem We{ops:Array Oper}{rest:List Oper}{op:Oper}{a:Act}{w:Wq}{Q:Exit->Act->Wq->Prop}{f:Fr}{aK:Option Addr}{cK:Nat}{B o:Nat}(hgd:op.guard=none)(x:Operand)(ho:op.op=.load 47 x)(hx:a.eval x=.pointer (some ⟨B,o,none⟩))(h:w.rangeAt B o (f.enc aK cK))(K:wpList Pg ops Q rest (a.put op.dst (.agg #[O J f.c.kind,O J f.c.a,O J f.c.b,O J f.c.time,O J f.c.bk,O J f.c.slot,O J f.pl,O J f.cur,O J f.prev,O J f.slot,O J f.n,Y aK f.keys.length cK,.bool f.done,O J f.e])) w):wpList Pg ops Q (op :: rest) a w :=
 wpList_load_mid hgd 47 x ho B o hx (f.enc aK cK) _ h Tryz.underlying47 rfl (by kernel_rfl) K
theorem Ha{ops:Array Oper}{rest:List Oper}{op:Oper}{a:Act}{w:Wq}{Q:Exit->Act->Wq->Prop}{v0 v1 v2 v3 v4 v5:Value}{B o:Nat}(hgd:op.guard=none)(x:Operand)(ho:op.op=.load 28 x)(hx:a.eval x=.pointer (some ⟨B,o,none⟩))(h:w.rangeAt B o [v0,v1,v2,v3,v4,v5])(K:wpList Pg ops Q rest (a.put op.dst (.agg #[v0,v1,v2,v3,v4,v5])) w):wpList Pg ops Q (op :: rest) a w :=
 wpList_load_mid hgd 28 x ho B o hx [v0,v1,v2,v3,v4,v5] _ h Tryz.underlying28 rfl (by kernel_rfl) K
theorem b2o{ops:Array Oper}{rest:List Oper}{op:Oper}{a:Act}{w:Wq}{Q:Exit->Act->Wq->Prop}{v0 v1 v2 v3 v4:Value}{B o:Nat}(hgd:op.guard=none)(x:Operand)(ho:op.op=.load 25 x)(hx:a.eval x=.pointer (some ⟨B,o,none⟩))(h:w.rangeAt B o [v0,v1,v2,v3,v4])(K:wpList Pg ops Q rest (a.put op.dst (.agg #[v0,v1,v2,v3,v4])) w):wpList Pg ops Q (op :: rest) a w :=
 wpList_load_mid hgd 25 x ho B o hx [v0,v1,v2,v3,v4] _ h Tryz.underlying25 rfl (by kernel_rfl) K
theorem b4i{ops:Array Oper}{rest:List Oper}{op:Oper}{a:Act}{w:Wq}{Q:Exit->Act->Wq->Prop}{c:Cl}{B o:Nat}(hgd:op.guard=none)(x:Operand)(ho:op.op=.load 32 x)(hx:a.eval x=.pointer (some ⟨B,o,none⟩))(h:w.rangeAt B o [O J c.kind,O J c.a,O J c.b,O J c.time,O J c.bk,O J c.slot])(K:wpList Pg ops Q rest (a.put op.dst (.agg #[O J c.kind,O J c.a,O J c.b,O J c.time,O J c.bk,O J c.slot])) w):wpList Pg ops Q (op :: rest) a w :=
 wpList_load_mid hgd 32 x ho B o hx [O J c.kind,O J c.a,O J c.b,O J c.time,O J c.bk,O J c.slot] _ h Tryz.underlying32 rfl (by kernel_rfl) K
theorem Wh{ops:Array Oper}{rest:List Oper}{op:Oper}{a:Act}{w:Wq}{Q:Exit->Act->Wq->Prop}{x0:Pk}{B o:Nat}(hgd:op.guard=none)(x:Operand)(ho:op.op=.load 34 x)(hx:a.eval x=.pointer (some ⟨B,o,none⟩))(h:w.rangeAt B o [O J x0.task,.bool x0.step,.bool x0.tick,O J x0.c.kind,O J x0.c.a,O J x0.c.b,O J x0.c.time,O J x0.c.bk,O J x0.c.slot])(K:wpList Pg ops Q rest (a.put op.dst (.agg #[O J x0.task,.bool x0.step,.bool x0.tick,O J x0.c.kind,O J x0.c.a,O J x0.c.b,O J x0.c.time,O J x0.c.bk,O J x0.c.slot])) w):wpList Pg ops Q (op :: rest) a w :=
 wpList_load_mid hgd 34 x ho B o hx [O J x0.task,.bool x0.step,.bool x0.tick,O J x0.c.kind,O J x0.c.a,O J x0.c.b,O J x0.c.time,O J x0.c.bk,O J x0.c.slot] _ h Tryz.underlying34 rfl (by kernel_rfl) K
theorem Bd{ops:Array Oper}{rest:List Oper}{op:Oper}{a:Act}{w:Wq}{Q:Exit->Act->Wq->Prop}{f:Fr}{aK:Option Addr}{cK:Nat}{B o:Nat}(hgd:op.guard=none)(x y:Operand)(ho:op.op=.store 47 x y)(hx:a.eval x=.pointer (some ⟨B,o,none⟩))(hy:a.eval y=.agg #[O J f.c.kind,O J f.c.a,O J f.c.b,O J f.c.time,O J f.c.bk,O J f.c.slot,O J f.pl,O J f.cur,O J f.prev,O J f.slot,O J f.n,Y aK f.keys.length cK,.bool f.done,O J f.e])(h:w.there B o 14)(K:wpList Pg ops Q rest (a.put op.dst Uz) (w.setCells B o (f.enc aK cK))):wpList Pg ops Q (op :: rest) a w :=
 wpList_store_mid hgd 47 x y ho B o #[O J f.c.kind,O J f.c.a,O J f.c.b,O J f.c.time,O J f.c.bk,O J f.c.slot,O J f.pl,O J f.cur,O J f.prev,O J f.slot,O J f.n,Y aK f.keys.length cK,.bool f.done,O J f.e] hx hy h (by kernel_rfl) (by kernel_rfl) K
theorem Gz{ops:Array Oper}{rest:List Oper}{op:Oper}{a:Act}{w:Wq}{Q:Exit->Act->Wq->Prop}{v0 v1 v2 v3 v4 v5:Value}{B o:Nat}(hgd:op.guard=none)(x y:Operand)(ho:op.op=.store 28 x y)(hx:a.eval x=.pointer (some ⟨B,o,none⟩))(hy:a.eval y=.agg #[v0,v1,v2,v3,v4,v5])(h:w.there B o 6)(h1:(#[v0,v1,v2,v3,v4,v5].all (·.oneCell'))=true)(K:wpList Pg ops Q rest (a.put op.dst Uz) (w.setCells B o [v0,v1,v2,v3,v4,v5])):wpList Pg ops Q (op :: rest) a w :=
 wpList_store_mid hgd 28 x y ho B o #[v0,v1,v2,v3,v4,v5] hx hy h (by kernel_rfl) h1 K
theorem ws_5{ops:Array Oper}{rest:List Oper}{op:Oper}{a:Act}{w:Wq}{Q:Exit->Act->Wq->Prop}{v0 v1 v2 v3 v4:Value}{B o:Nat}(hgd:op.guard=none)(x y:Operand)(ho:op.op=.store 25 x y)(hx:a.eval x=.pointer (some ⟨B,o,none⟩))(hy:a.eval y=.agg #[v0,v1,v2,v3,v4])(h:w.there B o 5)(h1:(#[v0,v1,v2,v3,v4].all (·.oneCell'))=true)(K:wpList Pg ops Q rest (a.put op.dst Uz) (w.setCells B o [v0,v1,v2,v3,v4])):wpList Pg ops Q (op :: rest) a w :=
 wpList_store_mid hgd 25 x y ho B o #[v0,v1,v2,v3,v4] hx hy h (by kernel_rfl) h1 K
theorem Ad{B k:Nat}(h:k≠B):∀ (vs:List Value) (o:Nat) (w:Wq),(w.setCells B o vs).heap[k]?=w.heap[k]?
 | [],_,_=>rfl
 | v :: vs,o,w=>by
  rw[World.setCells,Ad h vs (o+1),Below.heap_setCell _ _ _ _ (by dsimp only;exact h)]
theorem setCells_size{B:Nat}:∀ (vs:List Value) (o:Nat) (w:Wq),(w.setCells B o vs).heap.size=w.heap.size
 | [],_,_=>rfl
 | v :: vs,o,w=>by
  rw[World.setCells,setCells_size vs (o+1),World.size_setCell]
theorem Ap{B:Nat}:∀ (vs:List Value) (o:Nat) (w:Wq),(w.setCells B o vs).os=w.os/\(w.setCells B o vs).tape=w.tape/\(w.setCells B o vs).output=w.output
 | [],_,_=>⟨rfl,rfl,rfl⟩
 | v :: vs,o,w=>by
  rw[World.setCells]
  exact Ap vs (o+1) (w.setCell ⟨B,o,none⟩ v)
end
section
theorem Nu{α:Type}{f:α->Int}{l:List α}{k:Nat}(h:k<l.length){e E:Int}(he:f l[k]=e)(h0:e≠0)(H:E=Ah f (l.drop k)):E=e:=by
 rw[H,Jt f l k h,he,if_pos h0]
theorem Ug{α:Type}{f:α->Int}{l:List α}{k:Nat}(h:k<l.length){E:Int}(he:f l[k]=0)(H:E=Ah f (l.drop k)):E=Ah f (l.drop (k+1)):=by
 rw[H,Jt f l k h,he,if_neg (by simp)]
theorem drop_end{α:Type}{f:α->Int}{l:List α}{k:Nat}(h:l.length<=k){E:Int}(H:E=Ah f (l.drop k)):E=0:=by
 rw[H,Ig f l k h]
theorem a3u{l:List Int}{p:Int->Bool}{k:Nat}(hk:k<l.length)(h:(l.take k).any p=false)(h':p l[k]=false):(l.take (k+1)).any p=false:=by
 rw[List.take_succ_eq_append_getElem hk,List.any_append,h]
 simp[h']
theorem a6u{p:Int->Bool}{l:List Int}{k:Nat}(h:k<l.length)(hx:p l[k]=true):l.any p=true :=
 List.any_eq_true.2 ⟨_,List.getElem_mem h,hx⟩
theorem b3l(F:Nat)(caps:Array Value)(p:Int->Bool)(ao:Option Addr)(cap:Nat)(l:List Int)(w:Wq)(hat:Cj w ao cap l)(hF:∀ args W,(callFunc F args).run Pg W=.ok (.enter F args) W)
  (hp:∀ (x:Int) W,Below w.heap.size w W->Calls Pg F (#[O J x] ++ caps) W fun e W'=>e=.returned (.bool (p x))/\Below W.heap.size W W') :
  Calls Pg 84 #[Y ao l.length cap,.func (.func F) #[] caps] w fun e w'=>∃ i:Int,e=.returned (O J i)/\decide (0<=i)=l.any p/\Below w.heap.size w w':=by
 have m1:=hat.max
 have HAT:Hid (Cj w ao cap l):=hat
 have HP:Hid (∀ (x:Int) W,Below w.heap.size w W->Calls Pg F (#[O J x] ++ caps) W fun e W'=>e=.returned (.bool (p x))/\Below W.heap.size W W'):=hp
 have HFn:Hid (∀ args W,(callFunc F args).run Pg W=.ok (.enter F args) W):=hF
 clear hat hp hF
 go_enter Tryz.func84,Tryz.ntmps84
 go_wp2
 go_loopw [8] (fun i wr=>∃ k:Nat,k<=l.length/\i=O J k/\Hid (Below w.heap.size w wr)/\Hid ((l.take k).any p=false)) (fun i _=>l.length - (intOf i).toNat)
 case atStart=>exact⟨0,Nat.zero_le _,rfl,Below.refl _ _,by show _=_;simp⟩
 case round =>
  obtain⟨k,hk,rfl,HB,HC⟩:=hrel
  by_cases hlt:k<l.length
  ·rcases (HAT.out.below HB.out).at_ with h0|⟨bk,ok,rfl,hc⟩
   ·omega
   have c0:=hc k hlt
   clear hc
   generalize hy:l[k]=y at c0
   have HX:Hid (l[k]=y):=hy
   clear hy
   go_wp2_with fail
   rw[HFn.out]
   refine(HP.out y wr HB.out).mono ?_
   rintro e w1 ⟨rfl,hb1⟩
   have HB1:Hid (Below w.heap.size w w1):=HB.out.trans (hb1.mono HB.out.size)
   clear hb1 c0
   cases hh:p y
   ·have HH:Hid ((l.take (k+1)).any p=false):=a3u hlt HC.out (by rw[HX.out];exact hh)
    go_wp2
    go_roundw
    case rel=>exact⟨k+1,by omega,by go_num,HB1,HH⟩
    case measure=>simp[intOf];omega
   ·have HH:Hid (l.any p=true):=a6u hlt (by rw[HX.out];exact hh)
    go_wp2
    go_ret
    exact⟨k,rfl,by rw[HH.out];simp,HB1.out⟩
  ·have HH:Hid (l.any p=false):=by
    have:=HC.out
    rw[show k=l.length by omega,List.take_length] at this
    exact this
   go_wp2
   go_ret
   exact⟨-1,rfl,by rw[HH.out];rfl,HB.out⟩
theorem a4d(F:Nat)(caps:Array Value)(p:Int->Bool)(ao:Option Addr)(cap:Nat)(l:List Int)(w:Wq)(hat:Cj w ao cap l)(hF:∀ args W,(callFunc F args).run Pg W=.ok (.enter F args) W)
  (hp:∀ (x:Int) W,Below w.heap.size w W->Calls Pg F (#[O J x] ++ caps) W fun e W'=>e=.returned (.bool (p x))/\Below W.heap.size W W') :
  Calls Pg 37 #[Y ao l.length cap,.func (.func F) #[] caps] w fun e w'=>e=.returned (.bool (l.any p))/\Below w.heap.size w w':=by
 have HI:Hid (Calls Pg 84 #[Y ao l.length cap,.func (.func F) #[] caps] w fun e w'=>∃ i:Int,e=.returned (O J i)/\decide (0<=i)=l.any p/\Below w.heap.size w w'):=b3l F caps p ao cap l w hat hF hp
 clear hat hF hp
 go_enter Tryz.func37,Tryz.ntmps37
 go_wp2_with fail
 refine HI.out.mono ?_
 rintro e w1 ⟨i,rfl,hd,hb⟩
 have HB:Hid (Below w.heap.size w w1):=hb
 have HD:Hid (decide (0<=i)=l.any p):=hd
 clear hb hd
 go_wp2
 go_ret
 exact⟨by rw[<- HD.out];rfl,HB.out⟩
theorem fnCT:∀ args W,(callFunc 110 args).run Pg W=.ok (.enter 110 args) W:=fun _ _=>by kernel_rfl
theorem litCT(M:Mm)(aS aH aF aL:Option Addr)(cS cH cF cL B:Nat)(x:Int)(w:Wq)(hB:w.heap[B]?=some (.cells #[Y aS M.slots.length cS,Y aH M.heads.length cH,Y aF M.free.length cF,Y aL M.locks.length cL,O J M.now] 25 (0,0)))(m1:M.slots.length<=9223372036854775807) :
  Calls Pg 110 (#[O J x] ++ #[.pointer (some ⟨B,0,none⟩)]) w fun e w'=>e=.returned (.bool (!Dc M x))/\Below w.heap.size w w':=by
 obtain⟨q0,q1,q2,q3,q4,f0,f1,f2,f3,f4,qs⟩:=Af hB
 have HI:Hid (Calls Pg 111 #[.agg #[Y aS M.slots.length cS,Y aH M.heads.length cH,Y aF M.free.length cF,Y aL M.locks.length cL,O J M.now],O J x] w fun e w'=>e=.returned (.bool (Dc M x))/\Below w.heap.size w w'):=Ed aS aH aF aL M.slots.length M.heads.length M.free.length M.locks.length cS cH cF cL M.now x w m1
 clear hB f0 f1 f2 f3 f4
 generalize Dc M x=b at *
 go_enter Tryz.func110,Tryz.ntmps110
 go_wp2_with fail
 refine HI.out.mono ?_
 rintro e w1 ⟨rfl,hb1⟩
 clear q0 q1 q2 q3 q4
 go_wp2
 go_ret
 exact⟨rfl,hb1⟩
theorem Tq(M:Mm):∀ (l:List Int),Ah (hdE M) l=if l.any (fun x=>!Dc M x) then 5 else 0
 | []=>rfl
 | x :: l=>by
  have ih:=Tq M l
  simp only[Ah,List.any_cons,ih]
  unfold hdE
  by_cases h:Dc M x=true
  ·simp[h]
  ·have h':Dc M x=false:=by simpa using h
   simp[h']
theorem a0s(M:Mm)(t:Tk)(p:TkV)(aS aH aF aL:Option Addr)(cS cH cF cL:Nat)(w:Wq)(hr:Cj w p.aH p.cH t.held)(m1:M.slots.length<=9223372036854775000)(m2:M.heads.length<=9223372036854775000)(m3:t.f.keys.length<=9223372036854775807) :
  Calls Pg 63 #[.agg #[Y aS M.slots.length cS,Y aH M.heads.length cH,Y aF M.free.length cF,Y aL M.locks.length cL,O J M.now],.agg #[.bool t.busy,O J t.f.c.kind,O J t.f.c.a,O J t.f.c.b,O J t.f.c.time,O J t.f.c.bk,O J t.f.c.slot,O J t.f.pl,O J t.f.cur,O J t.f.prev,O J t.f.slot,O J t.f.n,Y p.aK t.f.keys.length p.cK,.bool t.f.done,O J t.f.e,Y p.aH t.held.length p.cH]] w fun e w'=>e=.returned (O J (tkE M t))/\Below w.heap.size w w':=by
 have m4:=hr.max
 obtain⟨E0,hE0⟩:∃ x,x=tkE M t:=⟨_,rfl⟩
 rw[<- hE0]
 have HV0:Hid (E0=tkE M t):=hE0
 clear hE0
 obtain⟨ox,hox⟩:∃ o:Obj,o=.cells #[Y aS M.slots.length cS,Y aH M.heads.length cH,Y aF M.free.length cF,Y aL M.locks.length cL,O J M.now] 25:=⟨_,rfl⟩
 obtain⟨oy,hoy⟩:∃ o:Obj,o=.cells #[.bool t.busy,O J t.f.c.kind,O J t.f.c.a,O J t.f.c.b,O J t.f.c.time,O J t.f.c.bk,O J t.f.c.slot,O J t.f.pl,O J t.f.cur,O J t.f.prev,O J t.f.slot,O J t.f.n,Y p.aK t.f.keys.length p.cK,.bool t.f.done,O J t.f.e,Y p.aH t.held.length p.cH] 49:=⟨_,rfl⟩
 have b0:Below w.heap.size w ((w.alloc ox).alloc oy):=below_alloc2 w ox oy
 have HX0:Hid (((w.alloc ox).alloc oy).heap[w.heap.size]?=some ox):=by show _=_;rw[Below.heap_alloc _ _ _ (by simp),heap_alloc_new]
 have HY0:Hid (((w.alloc ox).alloc oy).heap[w.heap.size+1]?=some oy):=by
  have:=heap_alloc_new (w.alloc ox) oy
  rwa [show (w.alloc ox).heap.size=w.heap.size+1 by simp] at this
 have HI0:Hid (Cj ((w.alloc ox).alloc oy) p.aH p.cH t.held):=hr.below b0
 clear hr
 obtain⟨bz,f,hd⟩:=t
 obtain⟨aK,cK,aD,cD⟩:=p
 dsimp only at *
 go_enter Tryz.func63,Tryz.ntmps63
 by_cases hh:100<hd.length
 ·have HV:Hid (E0=2):=HV0.out.trans (Vy hh)
  clear HX0 HY0 HI0
  go_wp2
  go_ret
  exact⟨by rw[HV.out];rfl,by rw[<- hox,<- hoy];exact b0⟩
 go_wp2_with fail
 rw[<- hox,<- hoy]
 generalize (w.alloc ox).alloc oy=W0 at *
 refine(a4d 110 #[.pointer (some ⟨w.heap.size,0,none⟩)] (fun x=>!Dc M x) aD cD hd W0 HI0.out fnCT (fun x W hb=>litCT M aS aH aF aL cS cH cF cL w.heap.size x W ((hb.block _ (lt_of_block HX0.out)).trans (HX0.out.trans (by rw[hox]))) (by omega))).mono ?_
 rintro e w1 ⟨rfl,hb1⟩
 have HX1:Hid (w1.heap[w.heap.size]?=some ox):=(hb1.block _ (lt_of_block HX0.out)).trans HX0.out
 have HY1:Hid (w1.heap[w.heap.size+1]?=some oy):=(hb1.block _ (lt_of_block HY0.out)).trans HY0.out
 have b1:Below w.heap.size w w1:=b0.trans (hb1.mono b0.size)
 have HF:Hid (Ah (hdE M) hd=if hd.any (fun x=>!Dc M x) then 5 else 0):=Tq M hd
 clear HX0 HY0 HI0 b0 hb1
 subst hox hoy
 generalize hd.any (fun x=>!Dc M x)=bb at *
 cases bb
 rotate_left
 ·have HV:Hid (E0=5):=HV0.out.trans (Vx hh (HF.out.trans rfl))
  go_wp2
  go_ret
  exact⟨by rw[HV.out];rfl,b1⟩
 have HF0:Hid (Ah (hdE M) hd=0):=HF.out.trans rfl
 clear HF
 have l5:Hid (w1.rangeAt w.heap.size 0 [Y aS M.slots.length cS,Y aH M.heads.length cH,Y aF M.free.length cF,Y aL M.locks.length cL,O J M.now]):=Au HX1.out rfl
 have lF:Hid (w1.rangeAt (w.heap.size+1) 1 (f.enc aK cK)):=Au HY1.out rfl
 have t0:w1.cell? ⟨w.heap.size+1,0,none⟩=some (.bool bz):=by rw[cell_of_block HY1.out];rfl
 cases bz
 ·have HV:Hid (E0=0):=HV0.out.trans (a0c hh HF0.out rfl)
  clear l5 lF
  go_wp2
  go_ret
  exact⟨by rw[HV.out];rfl,b1⟩
 ·have HV:Hid (E0=frE M.slots.length M.heads.length f):=HV0.out.trans (a0b hh HF0.out rfl)
  go_wp2_with (first|refine b2o rfl _ rfl rfl l5.out ?_|refine We rfl _ rfl rfl lF.out ?_)
  refine(Z8 aS aH aF aL M.slots.length M.heads.length M.free.length M.locks.length cS cH cF cL M.now f aK cK _ m1 m2 m3).mono ?_
  rintro e w2 ⟨rfl,hb2⟩
  rw[<- HV.out]
  have b2:Below w.heap.size w w2:=b1.trans (hb2.mono b1.size)
  clear l5 lF t0
  go_wp2
  go_ret
  exact⟨rfl,b2⟩
theorem Xm(n:Int)(w:Wq):Calls Pg 60 #[O J n] w fun e w'=>e=.returned (.bool (inB n 1 5))/\w=w':=by
 go_enter Tryz.func60,Tryz.ntmps60
 go_wp2_with (go_at_call 85;refine(Bq _ _ _ _).mono ?_;rintro e w1 ⟨rfl,rfl⟩)
 go_ret
 exact⟨rfl,rfl⟩
theorem Ph(M:Mm)(l:List (Tk × TkV))(aS aH aF aL:Option Addr)(cS cH cF cL:Nat)(aT:Option Addr)(cT:Nat)(w:Wq)(A:At w aS aH aF aL cS cH cF cL M)(r:Ef w aT cT l) :
  Calls Pg 19 #[.agg #[Y aS M.slots.length cS,Y aH M.heads.length cH,Y aF M.free.length cF,Y aL M.locks.length cL,O J M.now,Y aT l.length cT]] w fun e w'=>e=.returned (O J (wE ⟨M,l.map (·.1)⟩))/\Below w.heap.size w w':=by
 have m1:=A.s.max;have m2:=A.h.max;have m3:=r.max
 obtain⟨E0,hE0⟩:∃ x,x=wE ⟨M,l.map (·.1)⟩:=⟨_,rfl⟩
 rw[<- hE0]
 have HV0:Hid (E0=wE ⟨M,l.map (·.1)⟩):=hE0
 clear hE0
 obtain⟨om,hom⟩:∃ o:Obj,o=.cells #[Y aS M.slots.length cS,Y aH M.heads.length cH,Y aF M.free.length cF,Y aL M.locks.length cL,O J M.now,Y aT l.length cT] 28:=⟨_,rfl⟩
 have b0:Below w.heap.size w (w.alloc om):=A7 w om
 have HB0:Hid ((w.alloc om).heap[w.heap.size]?=some om):=heap_alloc_new w om
 have HA0:Hid _:=A.below b0
 have HR0:Hid (Ef (w.alloc om) aT cT l):=r.below b0
 clear A r
 go_enter Tryz.func19,Tryz.ntmps19
 go_wp2_with fail
 rw[<- hom]
 generalize w.alloc om=W0 at *
 refine(check_any M aS aH aF aL cS cH cF cL W0 HA0.out).mono ?_
 rintro e w1 ⟨rfl,hb1⟩
 have HB1:Hid (w1.heap[w.heap.size]?=some om):=(hb1.block _ (lt_of_block HB0.out)).trans HB0.out
 have HR1:Hid (Ef w1 aT cT l):=HR0.out.below hb1
 have b1:Below w.heap.size w w1:=b0.trans (hb1.mono b0.size)
 clear HB0 HA0 HR0 hb1 b0
 subst hom
 obtain⟨q0,q1,q2,q3,q4,q5,qs⟩:=Bc HB1.out
 by_cases hC:chk M=0
 rotate_left
 ·have h':(chk M != 0)=true:=by simpa using hC
  have HV:Hid (E0=chk M):=HV0.out.trans (a9z hC)
  generalize chk M=C at *
  go_wp2
  go_ret
  exact⟨by rw[HV.out];rfl,b1⟩
 have HC:Hid (chk M=0):=hC
 rw[hC]
 clear hC
 have HMB:Hid (∀ W,Calls Pg 60 #[O J (l.length:Int)] W fun e w'=>e=.returned (.bool (inB (l.length:Int) 1 5))/\W=w'):=fun W=>Xm _ W
 have hin:inB (l.length:Int) 1 5=true ↔ ¬ (l.length<1\/5<l.length):=by rw[Aj];omega
 have HIN:Hid (inB (l.length:Int) 1 5=true ↔ ¬ (l.length<1\/5<l.length)):=hin
 clear hin
 go_wp2_with fail
 refine(HMB.out _).mono ?_
 rintro e w1' ⟨rfl,rfl⟩
 generalize inB (l.length:Int) 1 5=bb at *
 cases bb
 ·have hn:l.length<1\/5<l.length:=Classical.byContradiction fun h=>by have:=HIN.out.2 h;cases this
  have HV:Hid (E0=3):=HV0.out.trans (a3r HC.out (by simpa using hn))
  clear hn
  go_wp2
  go_ret
  exact⟨by rw[HV.out];rfl,b1⟩
 have hn:=HIN.out.1 rfl
 have HV1:Hid (E0=Ah (fun p:Tk × TkV=>tkE M p.1) l):=HV0.out.trans ((a3q HC.out (by show ¬ ((l.map (·.1)).length<1\/5<(l.map (·.1)).length);rw[List.length_map];exact hn)).trans (Po _ _ _))
 clear HV0 HIN
 have hn1:¬ l.length=0:=by omega
 have hn5:l.length<=5:=by omega
 clear hn
 obtain⟨f,hf⟩:∃ f:Tk × TkV->Int,f=fun p=>tkE M p.1:=⟨_,rfl⟩
 rw[<- hf] at HV1
 have HF:Hid (f=fun p:Tk × TkV=>tkE M p.1):=hf
 clear hf
 obtain⟨b,o,rfl⟩:=HR1.out.addr (by omega)
 go_wp2
 go_loopw [21] (fun i wr=>∃ k:Nat,k<=l.length/\i=O J k/\Hid (Below w1.heap.size w1 wr)/\Hid (E0=Ah f (l.drop k)))
  (fun i _=>l.length - (intOf i).toNat)
 case atStart=>exact⟨0,Nat.zero_le _,rfl,Below.refl _ _,by show _=_;rw[List.drop_zero];exact HV1.out⟩
 case round =>
  obtain⟨k,hk,rfl,HBl,HE⟩:=hrel
  clear HV1 q0 q1 q2 q3 q4 q5
  have bw:Below w.heap.size w wr:=b1.trans (HBl.out.mono b1.size)
  by_cases hlt:k<l.length
  ·have HBr:Hid (wr.heap[w.heap.size]?=_):=(HBl.out.block _ qs).trans HB1.out
   have HRr:Hid (Ef wr (some ⟨b,o,none⟩) cT l):=HR1.out.below HBl.out
   obtain⟨q0,q1,q2,q3,q4,q5,qs'⟩:=Bc HBr.out
   have hHd:=HRr.out.held _ (List.getElem_mem hlt)
   have hkm:=(HRr.out.keys _ (List.getElem_mem hlt)).max
   have hrg:=HRr.out.range hlt
   have hbl:b<wr.heap.size:=cell_lt (HRr.out.cells hlt).1
   obtain⟨p,hp⟩:∃ p,p=l[k]:=⟨_,rfl⟩
   rw[<- hp] at hrg hHd hkm
   have HP:Hid (l[k]=p):=hp.symm
   clear hp
   obtain⟨t,v⟩:=p
   dsimp only at hHd hkm hrg
   have lT:Hid (wr.rangeAt b (o+k*16) (t.enc v)):=hrg
   obtain⟨ot,hot⟩:∃ ot:Obj,ot=.cells #[.bool t.busy,O J t.f.c.kind,O J t.f.c.a,O J t.f.c.b,O J t.f.c.time,O J t.f.c.bk,O J t.f.c.slot,O J t.f.pl,O J t.f.cur,O J t.f.prev,O J t.f.slot,O J t.f.n,Y v.aK t.f.keys.length v.cK,.bool t.f.done,O J t.f.e,Y v.aH t.held.length v.cH] 49:=⟨_,rfl⟩
   have HT2:Hid ((wr.alloc ot).heap[wr.heap.size]?=some ot):=heap_alloc_new wr ot
   have b2:Below w.heap.size w (wr.alloc ot):=bw.alloc bw.size _
   have HD2:Hid (Cj (wr.alloc ot) v.aH v.cH t.held):=hHd.below (A7 wr ot)
   have HL2:Hid (Below w1.heap.size w1 (wr.alloc ot)):=HBl.out.alloc HBl.out.size _
   have HB2:Hid ((wr.alloc ot).heap[w.heap.size]?=_):=(Below.heap_alloc _ _ _ qs').trans HBr.out
   clear hHd HBr HRr HBl bw hrg q0 q1 q2 q3 q4 q5
   have l5:Hid ((wr.alloc ot).rangeAt w.heap.size 0 [Y aS M.slots.length cS,Y aH M.heads.length cH,Y aF M.free.length cF,Y aL M.locks.length cL,O J M.now]):=Au HB2.out rfl
   subst hot
   have lT2:Hid ((wr.alloc (.cells #[.bool t.busy,O J t.f.c.kind,O J t.f.c.a,O J t.f.c.b,O J t.f.c.time,O J t.f.c.bk,O J t.f.c.slot,O J t.f.pl,O J t.f.cur,O J t.f.prev,O J t.f.slot,O J t.f.n,Y v.aK t.f.keys.length v.cK,.bool t.f.done,O J t.f.e,Y v.aH t.held.length v.cH] 49)).rangeAt wr.heap.size 0 (t.enc v)):=Au HT2.out rfl
   go_wp2_with (first|refine Ud rfl _ rfl rfl lT.out ?_|refine b2o rfl _ rfl rfl l5.out ?_|refine Ud rfl _ rfl rfl lT2.out ?_)
   clear HT2 HB2 l5 lT2 lT
   generalize World.alloc wr _=W2 at *
   refine(a0s M t v aS aH aF aL cS cH cF cL W2 HD2.out (by omega) (by omega) (by omega)).mono ?_
   rintro e w3 ⟨rfl,hb3⟩
   have b3:Below w.heap.size w w3:=b2.trans (hb3.mono b2.size)
   have HL3:Hid (Below w1.heap.size w1 w3):=HL2.out.trans (hb3.mono HL2.out.size)
   have HG:Hid (f l[k]=tkE M t):=by show _=_;rw[HF.out,HP.out]
   clear HD2 HL2 b2 hb3
   generalize tkE M t=C0 at *
   by_cases hC:C0=0
   ·subst hC
    have HV:Hid (E0=Ah f (l.drop (k+1))):=Ug hlt HG.out HE.out
    go_wp2
    go_roundw
    case rel=>exact⟨k+1,by omega,by go_num,HL3,HV⟩
    case measure=>simp[intOf];omega
   ·have h':(C0 != 0)=true:=by simpa using hC
    have HV:Hid (E0=C0):=Nu hlt HG.out hC HE.out
    go_wp2
    go_ret
    exact⟨by rw[HV.out];rfl,b3⟩
  ·have HV:Hid (E0=0):=drop_end (by omega) HE.out
   go_wp2
   go_ret
   exact⟨by rw[HV.out];rfl,bw⟩
end
section
def Ep(l:List (Tk × TkV)):List Value:=l.flatMap fun p=>p.1.enc p.2
theorem Jg:∀ l:List (Tk × TkV),(Ep l).length=l.length*16
 | []=>rfl
 | p :: l=>by
  have:=Jg l
  simp only[Ep,List.flatMap_cons,List.length_append,List.length_cons] at this ⊢
  rw[this,Tk.Gv];omega
theorem Pm{l:List (Tk × TkV)}{i:Nat}(h:i<l.length):Ep l=Ep (l.take i)++(l[i].1.enc l[i].2++Ep (l.drop (i+1))):=by
 have e:l=l.take i++l[i] :: l.drop (i+1):=by rw[List.getElem_cons_drop h,List.take_append_drop]
 conv=>lhs;rw[e]
 simp only[Ep,List.flatMap_append,List.flatMap_cons]
theorem Yx{l:List (Tk × TkV)}{i:Nat}(h:i<l.length)(q:Tk × TkV):Ep (l.set i q)=Ep (l.take i)++(q.1.enc q.2++Ep (l.drop (i+1))):=by
 rw[List.set_eq_take_append_cons_drop,if_pos h]
 simp[Ep]
theorem Ik{l:List (Tk × TkV)}{i:Nat}(h:i<l.length):(Ep (l.take i)).length=i*16:=by
 rw[Jg,List.length_take];congr 1;omega
theorem Ho{l:List (Tk × TkV)}{i q:Nat}(h:i<l.length)(hq:q<16):(Ep l)[i*16+q]?=(l[i].1.enc l[i].2)[q]?:=by
 rw[Pm h,List.getElem?_append_right (by rw[Ik h];omega),Ik h,List.getElem?_append_left (by rw[Tk.Gv];omega)]
 congr 1;omega
theorem Uy{l:List (Tk × TkV)}{i o:Nat}(h:i<l.length)(vs:List Value)(q:Tk × TkV)(ho:o+vs.length<=16)
  (e:(l[i].1.enc l[i].2).take o++vs++(l[i].1.enc l[i].2).drop (o+vs.length)=q.1.enc q.2) :
  (Ep l).take (i*16+o)++vs++(Ep l).drop (i*16+o+vs.length)=Ep (l.set i q):=by
 have hl:=Ik h
 have hn:(l[i].1.enc l[i].2).length=16:=Tk.Gv _ _
 rw[Yx h,Pm h,<- e]
 rw[List.take_append,List.take_of_length_le (by omega),hl,show i*16+o - i*16=o by omega,List.take_append_of_le_length (by omega)]
 rw[List.drop_append,List.drop_of_length_le (by omega),hl,show i*16+o+vs.length - i*16=o+vs.length by omega,List.drop_append_of_le_length (by omega)]
 simp
theorem Qo{l:List (Tk × TkV)}{i o:Nat}(h:i<l.length)(v:Value)(q:Tk × TkV)(ho:o<16)(e:(l[i].1.enc l[i].2).set o v=q.1.enc q.2):(Ep l).set (i*16+o) v=Ep (l.set i q):=by
 have hl:=Ik h
 have hn:(l[i].1.enc l[i].2).length=16:=Tk.Gv _ _
 rw[Yx h,Pm h,<- e,List.set_append_right _ _ (by omega),hl,show i*16+o - i*16=o by omega,List.set_append_left _ _ (by omega)]
theorem J8{lo size n g cap:Nat}{e:TypeId}:∀ (vs:List Value) (o:Nat) (w:Wq) (xs:List Value),w.ownsRow lo e size (Y (some ⟨g,0,none⟩) n cap) n xs->o+vs.length<=xs.length->(w.setCells g o vs).ownsRow lo e size (Y (some ⟨g,0,none⟩) n cap) n (xs.take o++vs++xs.drop (o+vs.length))
 | [],o,w,xs,h,hl=>by simpa [World.setCells] using h
 | v :: vs,o,w,xs,h,hl=>by
  rw[World.setCells]
  simp only[List.length_cons] at hl
  have:=J8 vs (o+1) (w.setCell ⟨g,o,none⟩ v) (xs.set o v) (h.stored o v).1 (by rw[List.length_set];omega)
  have e1:(xs.set o v).take (o+1)=xs.take o ++ [v]:=by
   rw[List.set_eq_take_append_cons_drop,if_pos (by omega),List.take_append,List.length_take,Nat.min_eq_left (by omega),List.take_of_length_le (by rw[List.length_take];omega),show o+1 - o=1 by omega]
   rfl
  have e2:(xs.set o v).drop (o+1+vs.length)=xs.drop (o+(v :: vs).length):=by
   rw[List.drop_set_of_lt (by omega)]
   congr 1;simp;omega
  rw[e1,e2] at this
  simpa using this
theorem Pz{w:Wq}{lo size n B o:Nat}{e:TypeId}{v:Value}{xs:List Value}(h:w.ownsRow lo e size v n xs)(hne:v.ownBlock≠some B)(vs:List Value):(w.setCells B o vs).ownsRow lo e size v n xs :=
 Bj h fun g hg=>Ad (fun e=>hne (by rw[hg,e])) vs o w
theorem a3f{w:Wq}{a:Option Addr}{c:Nat}{l:List (Int × Int)}(r:Am w a c l)(hn:l.length≠0){ad:Addr}(e:a=some ad):ad.block<w.heap.size:=by
 rcases r.at_ with h0|⟨b,o,e',hc⟩
 ·exact absurd h0 hn
 ·rw[e] at e'
  injection e' with e'
  subst e'
  exact cell_lt (hc 0 (by omega)).1
theorem Ec{w w':Wq}{a:Option Addr}{c:Nat}{l:List (Int × Int)}(r:Am w a c l)(h:l.length≠0->∀ ad,a=some ad->ad.block<w.heap.size->w'.heap[ad.block]?=w.heap[ad.block]?):Am w' a c l:=by
 refine⟨r.le,r.max,r.nil,?_⟩
 by_cases hn:l.length=0
 ·exact .inl hn
 rcases r.at_ with h0|⟨b,o,e,hc⟩
 ·exact .inl h0
 ·refine .inr ⟨b,o,e,fun i hi=>?_⟩
  have hb:=h hn _ e (a3f r hn e)
  rw[World.cell?_of_block (a:=⟨b,o+i*2,none⟩) hb,World.cell?_of_block (a:=⟨b,o+i*2+1,none⟩) hb]
  exact hc i hi
theorem Sr{w w':Wq}{a:Option Addr}{c:Nat}{l:List Int}(r:Cj w a c l)(h:∀ ad,a=some ad->w'.heap[ad.block]?=w.heap[ad.block]?):Cj w' a c l:=by
 refine⟨r.le,r.max,r.nil,?_⟩
 rcases r.at_ with h0|⟨b,o,e,hc⟩
 ·exact .inl h0
 ·refine .inr ⟨b,o,e,fun i hi=>?_⟩
  have hb:=h _ e
  rw[World.cell?_of_block (a:=⟨b,o+i,none⟩) hb]
  exact hc i hi
structure Bo(w:Wq)(lo g cT:Nat)(l:List (Tk × TkV)):Prop where
 row:w.ownsRow lo 49 16 (Y (some ⟨g,0,none⟩) l.length cT) l.length (Ep l)
 few:l.length<=5
 hm:∀ p∈l,p.1.held.length<=1000
 held:∀ p∈l,w.ownsRow lo 3 1 (Y p.2.aH p.1.held.length p.2.cH) p.1.held.length (encI p.1.held)
 dj:∀ i j (hi:i<l.length) (hj:j<l.length),i≠j->∀ a b,l[i].2.aH=some a->l[j].2.aH=some b->a.block≠b.block
 keys:∀ p∈l,Am w p.2.aK p.2.cK p.1.f.keys
 klo:∀ p∈l,∀ a,p.2.aK=some a->lo<=a.block
 kg:∀ p∈l,p.1.f.keys.length≠0->∀ a,p.2.aK=some a->a.block≠g
 kh:∀ p∈l,p.1.f.keys.length≠0->∀ q∈l,∀ a b,p.2.aK=some a->q.2.aH=some b->a.block≠b.block
def TB(g:Nat)(l:List (Tk × TkV))(k:Nat):Prop:=k=g\/(∃ p∈l,∃ a,p.2.aH=some a/\a.block=k)\/(∃ p∈l,∃ a,p.2.aK=some a/\a.block=k)
theorem Bo.hg{w:Wq}{lo g cT:Nat}{l:List (Tk × TkV)}(T:Bo w lo g cT l){p:Tk × TkV}(hp:p∈l){a:Addr}(ha:p.2.aH=some a):a.block≠g:=by
 have h1:=T.held p hp
 rw[ha] at h1
 intro e
 exact Cf h1 T.row (by decide) a.block rfl (by rw[e];rfl)
theorem Bo.hlo{w:Wq}{lo g cT:Nat}{l:List (Tk × TkV)}(T:Bo w lo g cT l){p:Tk × TkV}(hp:p∈l){a:Addr}(ha:p.2.aH=some a):lo<=a.block/\a.block<w.heap.size:=by
 have h1:=T.held p hp
 rw[ha] at h1
 exact h1.lt a.block rfl
theorem Bo.glo{w:Wq}{lo g cT:Nat}{l:List (Tk × TkV)}(T:Bo w lo g cT l):lo<=g/\g<w.heap.size:=T.row.lt g rfl
theorem Bo.same{w w':Wq}{lo g cT:Nat}{l:List (Tk × TkV)}(T:Bo w lo g cT l)(h:∀ k,k<w.heap.size->TB g l k->w'.heap[k]?=w.heap[k]?):Bo w' lo g cT l :=
 ⟨Bj T.row fun k hk=>h k (T.row.lt k hk).2 (.inl (by injection hk with hk;exact hk.symm)),T.few,T.hm,fun p hp=>Bj (T.held p hp) fun k hk=>h k ((T.held p hp).lt k hk).2 (.inr (.inl ⟨p,hp,(by
  cases ha:p.2.aH with
  | none=>rw[ha] at hk;cases hk
  | some a=>rw[ha] at hk;injection hk with hk;exact⟨a,rfl,hk⟩)⟩)),T.dj,fun p hp=>Ec (T.keys p hp) fun _ a ha hz=>h _ hz (.inr (.inr ⟨p,hp,a,ha,rfl⟩)),T.klo,T.kg,T.kh⟩
theorem Bo.below{w w':Wq}{lo g cT:Nat}{l:List (Tk × TkV)}(T:Bo w lo g cT l)(hb:Below w.heap.size w w'):Bo w' lo g cT l:=T.same fun k h _=>hb.block k h
theorem Bo.cell{w:Wq}{lo g cT:Nat}{l:List (Tk × TkV)}(T:Bo w lo g cT l){i q:Nat}(hi:i<l.length)(hq:q<16):w.cell? ⟨g,i*16+q,none⟩=(l[i].1.enc l[i].2)[q]?:=by
 rw[T.row.cellAt _ (by omega),Ho hi hq]
theorem Bo.range{w:Wq}{lo g cT:Nat}{l:List (Tk × TkV)}(T:Bo w lo g cT l){i:Nat}(hi:i<l.length):w.rangeAt g (i*16) (l[i].1.enc l[i].2):=fun j v hv=>by
 have hj:j<16:=by
  have:=(List.getElem?_eq_some_iff.1 hv).1
  rwa [Tk.Gv] at this
 rw[T.cell hi hj];exact hv
theorem Bo.Q7{w:Wq}{lo g cT:Nat}{l:List (Tk × TkV)}(T:Bo w lo g cT l){i:Nat}(hi:i<l.length):w.rangeAt g (i*16+1) (l[i].1.f.enc l[i].2.aK l[i].2.cK):=fun j v hv=>by
 have hj:j<14:=by
  have:=(List.getElem?_eq_some_iff.1 hv).1
  rwa [Fr.Gv] at this
 rw[show i*16+1+j=i*16+(j+1) by omega,T.cell hi (by omega),<- hv]
 show ((l[i].1.f.enc l[i].2.aK l[i].2.cK) ++ [_])[j]?=_
 rw[List.getElem?_append_left (by rw[Fr.Gv];omega)]
theorem Bo.there{w:Wq}{lo g cT:Nat}{l:List (Tk × TkV)}(T:Bo w lo g cT l){i o n:Nat}(hi:i<l.length)(hn:o+n<=16):w.there g (i*16+o) n:=fun j hj=>by
 refine⟨?_,T.row.frozenAt _⟩
 rw[Nat.add_assoc,T.cell hi (by omega)]
 obtain⟨v,hv⟩:=Qp l[i].1 l[i].2 (q:=o+j) (by omega)
 rw[hv];rfl
theorem Bo.busy{w:Wq}{lo g cT:Nat}{l:List (Tk × TkV)}(T:Bo w lo g cT l){i:Nat}(hi:i<l.length):w.cell? ⟨g,i*16,none⟩=some (.bool l[i].1.busy)/\w.frozen? ⟨g,i*16,none⟩=false:=⟨T.cell (q:=0) hi (by decide),T.row.frozenAt _⟩
theorem Bo.Zb{w:Wq}{lo g cT:Nat}{l:List (Tk × TkV)}(T:Bo w lo g cT l){i:Nat}(hi:i<l.length):w.cell? ⟨g,i*16+15,none⟩=some (Y l[i].2.aH l[i].1.held.length l[i].2.cH)/\w.frozen? ⟨g,i*16+15,none⟩=false:=⟨T.cell (q:=15) hi (by decide),T.row.frozenAt _⟩
theorem Bo.a0d{w:Wq}{lo g cT:Nat}{l:List (Tk × TkV)}(T:Bo w lo g cT l):Ef w (some ⟨g,0,none⟩) cT l:=by
 have hf:=T.few
 refine⟨?_,by omega,(fun h=>by cases h),.inr ⟨g,0,rfl,fun i hi q hq=>by rw[Nat.zero_add];exact T.cell hi hq⟩,T.keys,fun p hp=>?_⟩
 ·rcases T.row.2 with ⟨h,-⟩|⟨g',cap,cur,h,-,-,h2⟩
  ·cases h
  ·injection h with h1 h2' h3
   subst h3
   exact h2.1
 ·exact Cj.own (T.held p hp) (by have:=T.hm p hp;omega)
theorem Bo.thi{w:Wq}{lo g cT:Nat}{l:List (Tk × TkV)}(T:Bo w lo g cT l):THi lo (some ⟨g,0,none⟩) l :=
 ⟨(by rintro ad ⟨⟩;exact T.glo.1),fun p hp a ha=>T.klo p hp a ha,fun p hp a ha=>(T.hlo hp ha).1⟩
theorem Hw{l:List (Tk × TkV)}{i j:Nat}{q:Tk × TkV}(hi:i<l.length)(hj:j<(l.set i q).length):(j=i/\(l.set i q)[j]=q)\/(j≠i/\∃ h:j<l.length,(l.set i q)[j]=l[j]):=by
 by_cases e:j=i
 ·subst e;exact .inl ⟨rfl,by simp⟩
 ·refine .inr ⟨e,by simpa using hj,?_⟩
  rw[List.getElem_set_ne (fun h=>e h.symm)]
theorem Ja{l:List (Tk × TkV)}{i:Nat}{q p:Tk × TkV}(hi:i<l.length)(hp:p∈l.set i q):p=q\/p∈l:=by
 rcases List.mem_or_eq_of_mem_set hp with h|h
 ·exact .inr h
 ·exact .inl h
theorem Bo.a2c{w:Wq}{lo g cT:Nat}{l:List (Tk × TkV)}(T:Bo w lo g cT l){i:Nat}(hi:i<l.length)(f:Fr)(a:Option Addr)(c:Nat)(hk:Am w a c f.keys)(hlo:∀ ad,a=some ad->lo<=ad.block)(hg:f.keys.length≠0->∀ ad,a=some ad->ad.block≠g)
  (hh:f.keys.length≠0->∀ q∈l,∀ x b,a=some x->q.2.aH=some b->x.block≠b.block) :
  Bo (w.setCells g (i*16+1) (f.enc a c)) lo g cT (l.set i (⟨l[i].1.busy,f,l[i].1.held⟩,⟨a,c,l[i].2.aH,l[i].2.cH⟩)):=by
 have hlen:(l.set i (⟨l[i].1.busy,f,l[i].1.held⟩,⟨a,c,l[i].2.aH,l[i].2.cH⟩)).length=l.length:=List.length_set
 have hoth:∀ k,k≠g->(w.setCells g (i*16+1) (f.enc a c)).heap[k]?=w.heap[k]?:=fun k hk=>Ad hk _ _ _
 have hm:∀ {p},p∈l.set i (⟨l[i].1.busy,f,l[i].1.held⟩,⟨a,c,l[i].2.aH,l[i].2.cH⟩)->(p.1.f=f/\p.2.aK=a/\p.2.cK=c/\p.1.held=l[i].1.held/\p.2.aH=l[i].2.aH/\p.2.cH=l[i].2.cH)\/p∈l:=fun hp=>(Ja hi hp).imp (fun h=>by subst h;exact⟨rfl,rfl,rfl,rfl,rfl,rfl⟩) id
 have hH:∀ {p},p∈l.set i (⟨l[i].1.busy,f,l[i].1.held⟩,⟨a,c,l[i].2.aH,l[i].2.cH⟩)->∃ q∈l,p.1.held=q.1.held/\p.2.aH=q.2.aH/\p.2.cH=q.2.cH:=fun hp=>by
  rcases hm hp with ⟨-,-,-,h1,h2,h3⟩|h
  ·exact⟨l[i],List.getElem_mem hi,h1,h2,h3⟩
  ·exact⟨_,h,rfl,rfl,rfl⟩
 refine⟨?_,by rw[hlen];exact T.few,fun p hp=>?_,fun p hp=>?_,fun j k hj hk' hne x y hx hy=>?_,fun p hp=>?_,fun p hp x hx=>?_,fun p hp hn x hx=>?_,fun p hp hn q hq x y hx hy=>?_⟩
 ·rw[hlen,<- Uy hi (o:=1) (f.enc a c) (⟨l[i].1.busy,f,l[i].1.held⟩,⟨a,c,l[i].2.aH,l[i].2.cH⟩) (by rw[Fr.Gv];decide) rfl]
  exact J8 _ _ _ _ T.row (by rw[Jg,Fr.Gv];omega)
 ·obtain⟨q,hq,e,-⟩:=hH hp
  rw[e];exact T.hm q hq
 ·obtain⟨q,hq,e1,e2,e3⟩:=hH hp
  rw[e1,e2,e3]
  refine Pz (T.held q hq) (fun h=>?_) _
  cases ha:q.2.aH with
  | none=>rw[ha] at h;cases h
  | some ad=>rw[ha] at h;injection h with h;exact T.hg hq ha h
 ·have e:∀ {j} (hj:j<(l.set i ((⟨l[i].1.busy,f,l[i].1.held⟩,⟨a,c,l[i].2.aH,l[i].2.cH⟩):Tk × TkV)).length),∃ h:j<l.length,(l.set i ((⟨l[i].1.busy,f,l[i].1.held⟩,⟨a,c,l[i].2.aH,l[i].2.cH⟩):Tk × TkV))[j].2.aH=l[j].2.aH:=fun {j} hj=>by
   rcases Hw hi hj with ⟨rfl,e⟩|⟨_,h,e⟩
   ·exact⟨hi,by rw[e]⟩
   ·exact⟨h,by rw[e]⟩
  obtain⟨h1,e1⟩:=e hj
  obtain⟨h2,e2⟩:=e hk'
  rw[e1] at hx;rw[e2] at hy
  exact T.dj j k h1 h2 hne x y hx hy
 ·rcases hm hp with ⟨h1,h2,h3,-⟩|h
  ·rw[h1,h2,h3];exact Ec hk fun hn ad e _=>hoth _ (hg hn ad e)
  ·exact Ec (T.keys p h) fun hn ad e _=>hoth _ (T.kg p h hn ad e)
 ·rcases hm hp with ⟨-,h2,-⟩|h
  ·rw[h2] at hx;exact hlo x hx
  ·exact T.klo p h x hx
 ·rcases hm hp with ⟨h1,h2,-⟩|h
  ·rw[h1] at hn;rw[h2] at hx;exact hg hn x hx
  ·exact T.kg p h hn x hx
 ·obtain⟨q',hq',-,e2,-⟩:=hH hq
  rw[e2] at hy
  rcases hm hp with ⟨h1,h2,-⟩|h
  ·rw[h1] at hn;rw[h2] at hx;exact hh hn q' hq' x y hx hy
  ·exact T.kh p h hn q' hq' x y hx hy
theorem Bo.setB{w:Wq}{lo g cT:Nat}{l:List (Tk × TkV)}(T:Bo w lo g cT l){i:Nat}(hi:i<l.length)(b:Bool) :
  Bo (w.setCell ⟨g,i*16,none⟩ (.bool b)) lo g cT (l.set i (⟨b,l[i].1.f,l[i].1.held⟩,l[i].2)):=by
 have hlen:(l.set i (⟨b,l[i].1.f,l[i].1.held⟩,l[i].2)).length=l.length:=List.length_set
 have hoth:∀ k,k≠g->(w.setCell ⟨g,i*16,none⟩ (.bool b)).heap[k]?=w.heap[k]?:=fun k hk=>Below.heap_setCell _ _ _ _ (by dsimp only;exact hk)
 have hH:∀ {p},p∈l.set i (⟨b,l[i].1.f,l[i].1.held⟩,l[i].2)->∃ q∈l,p.1.f=q.1.f/\p.1.held=q.1.held/\p.2=q.2:=fun hp=>by
  rcases Ja hi hp with rfl|h
  ·exact⟨l[i],List.getElem_mem hi,rfl,rfl,rfl⟩
  ·exact⟨_,h,rfl,rfl,rfl⟩
 refine⟨?_,by rw[hlen];exact T.few,fun p hp=>?_,fun p hp=>?_,fun j k hj hk' hne x y hx hy=>?_,fun p hp=>?_,fun p hp x hx=>?_,fun p hp hn x hx=>?_,fun p hp hn q hq x y hx hy=>?_⟩
 ·rw[hlen,<- Qo hi (o:=0) (.bool b) (⟨b,l[i].1.f,l[i].1.held⟩,l[i].2) (by decide) rfl]
  exact(T.row.stored (i*16) _).1
 ·obtain⟨q,hq,-,e,-⟩:=hH hp
  rw[e];exact T.hm q hq
 ·obtain⟨q,hq,-,e1,e2⟩:=hH hp
  rw[e1,e2]
  refine ownsRow_setCell_other (T.held q hq) (fun h=>?_) _
  cases ha:q.2.aH with
  | none=>rw[ha] at h;cases h
  | some ad=>rw[ha] at h;injection h with h;exact T.hg hq ha h
 ·have e:∀ {j} (hj:j<(l.set i (⟨b,l[i].1.f,l[i].1.held⟩,l[i].2)).length),∃ h:j<l.length,(l.set i (⟨b,l[i].1.f,l[i].1.held⟩,l[i].2))[j].2.aH=l[j].2.aH:=fun {j} hj=>by
   rcases Hw hi hj with ⟨rfl,e⟩|⟨_,h,e⟩
   ·exact⟨hi,by rw[e]⟩
   ·exact⟨h,by rw[e]⟩
  obtain⟨h1,e1⟩:=e hj
  obtain⟨h2,e2⟩:=e hk'
  rw[e1] at hx;rw[e2] at hy
  exact T.dj j k h1 h2 hne x y hx hy
 ·obtain⟨q,hq,e1,-,e2⟩:=hH hp
  rw[e1,e2];exact Ec (T.keys q hq) fun hn ad e _=>hoth _ (T.kg q hq hn ad e)
 ·obtain⟨q,hq,-,-,e2⟩:=hH hp
  rw[e2] at hx;exact T.klo q hq x hx
 ·obtain⟨q,hq,e1,-,e2⟩:=hH hp
  rw[e1] at hn
  rw[e2] at hx;exact T.kg q hq hn x hx
 ·obtain⟨q1,hq1,e0,-,e1⟩:=hH hp
  obtain⟨q2,hq2,-,-,e2⟩:=hH hq
  rw[e0] at hn
  rw[e1] at hx;rw[e2] at hy
  exact T.kh q1 hq1 hn q2 hq2 x y hx hy
theorem Bo.setH{w w1:Wq}{lo g cT:Nat}{l:List (Tk × TkV)}(T:Bo w lo g cT l){i:Nat}(hi:i<l.length)(h':List Int)(a':Option Addr)(c':Nat)(hm':h'.length<=1000)
  (ho:w1.ownsRow lo 3 1 (Y a' h'.length c') h'.length (encI h')) (hs:∀ k,k<w.heap.size->(∀ ad,l[i].2.aH=some ad->k≠ad.block)->w1.heap[k]?=w.heap[k]?)
  (hloc:∀ x,a'=some x->(∃ ad,l[i].2.aH=some ad/\x.block=ad.block)\/w.heap.size<=x.block) :
  Bo (w1.setCell ⟨g,i*16+15,none⟩ (Y a' h'.length c')) lo g cT (l.set i (⟨l[i].1.busy,l[i].1.f,h'⟩,⟨l[i].2.aK,l[i].2.cK,a',c'⟩)):=by
 have hpi:=List.getElem_mem hi
 have hlen:(l.set i (⟨l[i].1.busy,l[i].1.f,h'⟩,⟨l[i].2.aK,l[i].2.cK,a',c'⟩)).length=l.length:=List.length_set
 have hgz:=T.glo
 have hg1:w1.heap[g]?=w.heap[g]?:=hs g hgz.2 (fun ad e h=>T.hg hpi e h.symm)
 have row1:w1.ownsRow lo 49 16 (Y (some ⟨g,0,none⟩) l.length cT) l.length (Ep l):=Bj T.row fun k hk=>by injection hk with hk;subst hk;exact hg1
 have hoth:∀ k,k≠g->(w1.setCell ⟨g,i*16+15,none⟩ (Y a' h'.length c')).heap[k]?=w1.heap[k]?:=fun k hk=>Below.heap_setCell _ _ _ _ (by dsimp only;exact hk)
 have hng:∀ x,a'=some x->x.block≠g:=fun x e h=>by
  rcases hloc x e with ⟨ad,e',h'⟩|h'
  ·exact T.hg hpi e' (h'.symm.trans h)
  ·omega
 have hK:∀ {p},p∈l.set i (⟨l[i].1.busy,l[i].1.f,h'⟩,⟨l[i].2.aK,l[i].2.cK,a',c'⟩)->∃ q∈l,p.1.f=q.1.f/\p.2.aK=q.2.aK/\p.2.cK=q.2.cK:=fun hp=>by
  rcases Ja hi hp with rfl|h
  ·exact⟨l[i],hpi,rfl,rfl,rfl⟩
  ·exact⟨_,h,rfl,rfl,rfl⟩
 refine⟨?_,by rw[hlen];exact T.few,fun p hp=>?_,fun p hp=>?_,fun j k hj hk' hne x y hx hy=>?_,fun p hp=>?_,fun p hp x hx=>?_,fun p hp hn x hx=>?_,fun p hp hn q hq x y hx hy=>?_⟩
 ·rw[hlen,<- Qo hi (o:=15) (Y a' h'.length c') (⟨l[i].1.busy,l[i].1.f,h'⟩,⟨l[i].2.aK,l[i].2.cK,a',c'⟩) (by decide) rfl]
  exact(row1.stored (i*16+15) _).1
 ·rcases Ja hi hp with rfl|h
  ·exact hm'
  ·exact T.hm p h
 ·obtain⟨j,hj,rfl⟩:=List.getElem_of_mem hp
  rcases Hw hi hj with ⟨-,e⟩|⟨hne,h,e⟩
  ·rw[e]
   refine ownsRow_setCell_other ho (fun h=>?_) _
   cases a' with
   | none=>cases h
   | some x=>injection h with h;exact hng x rfl h
  ·rw[e]
   have hh:=T.held _ (List.getElem_mem h)
   cases ha:l[j].2.aH with
   | none =>
    rw[ha] at hh
    exact Bj hh fun k hk=>by cases hk
   | some ad =>
    rw[ha] at hh
    refine ownsRow_setCell_other (Bj hh fun k hk=>?_) (fun h'=>?_) _
    ·injection hk with hk
     subst hk
     exact hs _ (T.hlo (List.getElem_mem h) ha).2 (fun ad' e'=>T.dj j i h hi hne ad ad' ha e')
    ·injection h' with h'
     exact T.hg (List.getElem_mem h) ha h'
 ·have hold:∀ {j} (h:j<l.length),j≠i->∀ x y,a'=some x->l[j].2.aH=some y->x.block≠y.block:=fun {j} h hne x y hx hy=>by
   rcases hloc x hx with ⟨ad,e,e'⟩|h'
   ·rw[e'];exact(T.dj j i h hi hne y ad hy e).symm
   ·have:=(T.hlo (List.getElem_mem h) hy).2
    omega
  rcases Hw hi hj with ⟨rfl,e⟩|⟨n1,h1,e⟩
  ·rw[e] at hx
   rcases Hw hi hk' with ⟨rfl,e'⟩|⟨n2,h2,e'⟩
   ·exact absurd rfl hne
   ·rw[e'] at hy
    exact hold h2 n2 x y hx hy
  ·rw[e] at hx
   rcases Hw hi hk' with ⟨rfl,e'⟩|⟨n2,h2,e'⟩
   ·rw[e'] at hy
    exact(hold h1 n1 y x hy hx).symm
   ·rw[e'] at hy
    exact T.dj j k h1 h2 hne x y hx hy
 ·obtain⟨q,hq,e1,e2,e3⟩:=hK hp
  rw[e1,e2,e3]
  refine Ec (w:=w) (T.keys q hq) fun hn ad e hz=>?_
  rw[hoth _ (T.kg q hq hn ad e)]
  exact hs _ hz (fun ad' e'=>T.kh q hq hn _ hpi ad ad' e e')
 ·obtain⟨q,hq,-,e2,-⟩:=hK hp
  rw[e2] at hx;exact T.klo q hq x hx
 ·obtain⟨q,hq,e1,e2,-⟩:=hK hp
  rw[e1] at hn
  rw[e2] at hx;exact T.kg q hq hn x hx
 ·obtain⟨q1,hq1,e0,e1,-⟩:=hK hp
  rw[e0] at hn
  rw[e1] at hx
  rcases Ja hi hq with rfl|h
  ·rcases hloc y hy with ⟨ad,e,e'⟩|h'
   ·rw[e'];exact T.kh q1 hq1 hn _ hpi x ad hx e
   ·have:=a3f (T.keys q1 hq1) hn hx
    omega
  ·exact T.kh q1 hq1 hn q h x y hx hy
end
section
open Go.Deep Go.Sort
def Ue(l:List Int)(x i:Int):Prop:=(i=-1/\x ∉ l)\/∃ (k:Nat) (h:k<l.length),i=(k:Int)/\l[k]=x/\x ∉ l.take k
theorem index_first(ao:Option Addr)(cap:Nat)(l:List Int)(x:Int)(w:Wq)(r:Cj w ao cap l) :
  Calls Pg 78 #[Y ao l.length cap,O J x] w fun e w'=>∃ i:Int,e=.returned (O J i)/\Ue l x i/\w=w':=by
 have m1:=r.max
 have HAT:Hid (∀ i (h:i<l.length),∃ b o,ao=some ⟨b,o,none⟩/\w.cell? ⟨b,o+i,none⟩=some (O J l[i])):=fun i h=>by
  rcases r.at_ with h0|⟨b,o,e,hc⟩
  ·omega
  ·exact⟨b,o,e,hc i h⟩
 clear r
 go_enter Tryz.func78,Tryz.ntmps78
 go_wp2
 go_loop [8] (fun i=>∃ k:Nat,k<=l.length/\i=O J k/\Hid (x ∉ l.take k)) (fun i=>l.length - (intOf i).toNat)
 case atStart=>exact⟨0,Nat.zero_le _,rfl,by show _ ∉ _;simp⟩
 case round =>
  obtain⟨k,hk,rfl,HC⟩:=hrel
  by_cases hlt:k<l.length
  ·obtain⟨b,o,rfl,hck⟩:=HAT.out k hlt
   have HTk:Hid (∀ y,l[k]=y->x≠y->x ∉ l.take (k+1)):=fun y e hn=>by
    show _ ∉ _
    rw[List.take_succ_eq_append_getElem hlt]
    simp only[List.mem_append,List.mem_singleton,not_or]
    exact⟨HC.out,by rw[e];exact hn⟩
   by_cases hx:x=l[k]
   ·have HH:Hid (Ue l x k):=.inr ⟨k,hlt,rfl,hx.symm,HC.out⟩
    generalize l[k]=y at hck hx
    subst hx
    go_wp2
    go_ret
    exact⟨k,rfl,HH.out,rfl⟩
   ·have HH:Hid (x ∉ l.take (k+1)):=HTk.out _ rfl hx
    have hx':(x==l[k])=false:=by simpa using hx
    go_wp2
    go_round
    case rel=>exact⟨k+1,by omega,by go_num,HH⟩
    case measure=>simp[intOf];omega
  ·have HH:Hid (Ue l x (-1)):=.inl ⟨rfl,by
    have:=HC.out
    rwa [show k=l.length by omega,List.take_length] at this⟩
   go_wp2
   go_ret
   exact⟨-1,rfl,HH.out,rfl⟩
theorem Tt{l:List Int}{x:Int}{k:Nat}(h:k<l.length)(e:l[k]=x)(hn:x ∉ l.take k):l.erase x=l.eraseIdx k:=by
 induction l generalizing k with
 | nil=>simp at h
 | cons y l ih =>
  cases k with
  | zero =>
   simp at e
   subst e
   simp
  | succ k =>
   simp at hn
   rw[List.erase_cons_tail (by simpa using fun e=>hn.1 e.symm),List.eraseIdx_cons_succ]
   rw[ih (by simpa using h) (by simpa using e) hn.2]
theorem a1t{w:Wq}{lo g c i j:Nat}{l:List Int}(hO:w.ownsRow lo 3 1 (Y (some ⟨g,0,none⟩) l.length c) l.length (encI l))(hi:i<l.length)(hj:j=i+1)(q:Nat)(hq:q=l.length - 1)(z:Value) :
  (((w.drew).setCells g i ((encI l).drop j)).setCells g q [z]).ownsRow lo 3 1 (Y (some ⟨g,0,none⟩) (l.eraseIdx i).length c) (l.eraseIdx i).length (encI (l.eraseIdx i)):=by
 subst hj hq
 have hlen:(l.eraseIdx i).length=l.length - 1:=List.length_eraseIdx_of_lt hi
 have hL:=Dq l
 have h0:w.drew.ownsRow lo 3 1 (Y (some ⟨g,0,none⟩) l.length c) l.length (encI l):=hO.drew
 have h1:=J8 ((encI l).drop (i+1)) i w.drew (encI l) h0 (by rw[List.length_drop];omega)
 have h2:=J8 [z] (l.length - 1) _ _ h1 (by simp only[List.length_append,List.length_take,List.length_drop,List.length_singleton];omega)
 have e:(List.take i (encI l)++List.drop (i+1) (encI l)++List.drop (i+(List.drop (i+1) (encI l)).length) (encI l)).take (l.length - 1)=encI (l.eraseIdx i):=by
  rw[List.take_append_of_le_length (by simp only[List.length_append,List.length_take,List.length_drop];omega),List.take_of_length_le (by simp only[List.length_append,List.length_take,List.length_drop];omega),List.eraseIdx_eq_take_drop_succ]
  simp[encI]
 rw[e] at h2
 have e2:List.drop (l.length - 1 + [z].length) (List.take i (encI l)++List.drop (i+1) (encI l)++List.drop (i+(List.drop (i+1) (encI l)).length) (encI l))=[]:=by
  apply List.drop_of_length_le
  simp only[List.length_append,List.length_take,List.length_drop,List.length_singleton];omega
 rw[e2,List.append_nil] at h2
 obtain⟨m,hm⟩:∃ m,l.length=m+1:=⟨l.length - 1,by omega⟩
 rw[hm] at h2
 refine ownsRow_pop (last:=[z]) (by rw[Dq,hlen];omega) ?_
 rw[hlen,hm]
 simpa using h2
theorem b0r(g c i j lo:Nat)(l:List Int)(w:Wq)(hO:w.ownsRow lo 3 1 (Y (some ⟨g,0,none⟩) l.length c) l.length (encI l))(hi:i<l.length)(hj:j=i+1)(hbig:l.length<=1000) :
  Calls Pg 198 #[Y (some ⟨g,0,none⟩) l.length c,O J (i:Int),O J (j:Int)] w fun e w'=>e=.returned (Y (some ⟨g,0,none⟩) (l.eraseIdx i).length c)/\w'.ownsRow lo 3 1 (Y (some ⟨g,0,none⟩) (l.eraseIdx i).length c) (l.eraseIdx i).length (encI (l.eraseIdx i))/\Fine w w' (fun k=>k=g):=by
 have hlen:(l.eraseIdx i).length=i+(l.length - j):=by rw[List.length_eraseIdx_of_lt hi];omega
 obtain⟨i0,hi0,hz0,hz1,hz2⟩:=info_parts iI
 obtain⟨hcap,hcm⟩:l.length<=c/\c<=maxLen:=by
  rcases hO.2 with ⟨h,-⟩|⟨g',cap,cur,h,-,-,hc,hm,-⟩
  ·cases h
  ·injection h with h1 h2 h3
   omega
 have hm:c<=9223372036854775807:=by unfold maxLen at hcm;exact hcm
 obtain⟨news,hnews⟩:∃ news,news=(encI l).drop j:=⟨_,rfl⟩
 have HE:Hid (∀ q z,q=i+(l.length - j)->((w.drew.setCells g i news).setCells g q [z]).ownsRow lo 3 1 (Y (some ⟨g,0,none⟩) (l.eraseIdx i).length c) (l.eraseIdx i).length (encI (l.eraseIdx i))):=fun q z hq=>hnews ▸ a1t hO hi hj q (by omega) z
 have hL:=Dq l
 have hnl:news.length=l.length - j:=by rw[hnews,List.length_drop];omega
 have hcell:∀ t,t<l.length->(w.drew.cell? ⟨g,t,none⟩).isSome=true:=fun t ht=>by
  have e:w.drew.cell? ⟨g,t,none⟩=_:=hO.cellAt t (by omega)
  rw[e,List.getElem?_eq_getElem (by omega)]
  rfl
 have hfz:∀ t,w.drew.frozen? ⟨g,t,none⟩=false:=fun t=>hO.frozenAt t
 obtain⟨A,hA,hsrc⟩:∃ A:Addr,(if c=j then some (⟨g,0,none⟩:Addr) else some ⟨g,j,none⟩)=some A/\Hid (∀ t u,news[t]?=some u->w.drew.cell? (A.add t)=some u):=by
  by_cases h:c=j
  ·refine⟨⟨g,0,none⟩,by simp[h],fun t u hu=>?_⟩
   have h0:news.length=0:=by rw[hnl];omega
   rw[List.length_eq_zero_iff.1 h0] at hu
   simp at hu
  ·refine⟨⟨g,j,none⟩,by simp[h],fun t u hu=>?_⟩
   have ht:t<l.length - j:=by
    have:=(List.getElem?_eq_some_iff.1 hu).1
    rwa [hnl] at this
   rw[Addr.add_lit]
   have e:w.drew.cell? ⟨g,j+t,none⟩=_:=hO.cellAt (j+t) (by omega)
   rw[e,<- hu,hnews,List.getElem?_drop]
 have s1:Hid (news.length=(l.length - j)*1):=by show _=_;omega
 have s2:Hid (∀ u∈news,u.oneCell'=true):=fun u hu=>Gp l u (List.mem_of_mem_drop (hnews ▸ hu))
 have s3:Hid (∀ t,t<news.length->(w.drew.cell? ⟨g,0+i*1+t,none⟩).isSome=true/\w.drew.frozen? ⟨g,0+i*1+t,none⟩=false):=fun t ht=>by
  rw[hnl] at ht
  exact⟨hcell _ (by omega),hfz _⟩
 obtain⟨W1,hW1⟩:∃ W1,W1=w.drew.setCells g (0+i*1) news:=⟨_,rfl⟩
 have hv:∀ w,(zeroValue 3).run Pg w=.ok (O J 0) w:=fun w=>by kernel_rfl
 have hcl:∀ ty,(Builtin.clear_ #[23] ty #[Y (some ⟨g,i+(l.length - j),none⟩) (l.length - (i+(l.length - j))) (c - (i+(l.length - j)))]).run Pg W1=.ok (.tuple #[]) (W1.setCells g (i+(l.length - j)) [O J 0]):=fun ty=>by
  have h:=Lib.run_clear_slice (P:=Pg) W1 23 3 ty (O J 0) Tryz.underlying23 hv (by kernel_rfl) (by kernel_rfl) g (i+(l.length - j)) (l.length - (i+(l.length - j))) (c - (i+(l.length - j))) (by omega) (fun t ht=>by
   rw[hW1,World.cell?_setCells_out g _ _ _ _ (fun _ _=>.inr (by rw[hnl];dsimp only;omega))]
   exact hcell _ (by omega)) (fun t ht=>by rw[hW1,World.frozen?_setCells];exact hfz _)
  rw[show l.length - (i+(l.length - j))=1 by omega] at h ⊢
  exact h
 have HB:Hid (Fine w W1 (fun k=>k=g)):=by
  rw[hW1]
  exact⟨(Ap _ _ _).1,(Ap _ _ _).2.1,(Ap _ _ _).2.2,by rw[setCells_size];exact Nat.le_refl _,fun k h1 h2=>Ad h2 _ _ _⟩
 have hW:Hid (W1=w.drew.setCells g (0+i*1) news):=hW1
 have hic:i<=c:=by omega
 have hjc:j<=c:=by omega
 have hlt:i<j:=by omega
 have hjn:j<=l.length:=by omega
 rw[hlen]
 rw[hlen] at HE
 clear hW1 hcell hfz hO hnews hnl hlen hj hi hcm hL hv
 generalize encI (l.eraseIdx i)=xs at *
 generalize l.length=n at *
 go_enter Tryz.func198,Tryz.ntmps198
 go_wp2_with fail
 go_region_law (refine step_append_room rfl _ _ 23 rfl 3 i0 1 Tryz.underlying23 hi0 hz1 g 0 i c (by simp[Act.eval,Act.put]) A (n - j) (c - j) news (by simp[Act.eval,Act.put]) s1.out hsrc.out s2.out (by omega) s3.out ?_;rw[<- hW.out])
 go_wp2
 go_ret
 refine⟨rfl,?_,?_⟩
 ·have h:=HE.out _ (O J 0) rfl
  rw[hW.out,Nat.zero_add,Nat.mul_one]
  exact h
 ·have h:=HB.out
  exact⟨(Ap _ _ _).1.trans h.os,(Ap _ _ _).2.1.trans h.tape,(Ap _ _ _).2.2.trans h.output,by rw[setCells_size];exact h.size,fun k h1 h2=>(Ad h2 _ _ _).trans (h.block k h1 h2)⟩
end
end Go.Proofs.YthhgoenomehobaaGreat.mm
