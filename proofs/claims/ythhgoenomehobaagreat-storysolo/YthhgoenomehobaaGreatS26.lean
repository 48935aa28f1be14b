/- Parts. -/
import Derived.Test.YthhgoenomehobaaGreatS04
import Derived.Test.YthhgoenomehobaaGreatS06
import Derived.Test.YthhgoenomehobaaGreatS02
import Derived.Deep.MidRow
import Derived.Test.YthhgoenomehobaaGreatS05
import Derived.Test.YthhgoenomehobaaGreatS03
import Derived.Test.YthhgoenomehobaaGreatS25
import Derived.Lib.SliceRun
import Derived.Laws.OwnMore
import Derived.Laws.IdiomCopy
import Derived.BigQuiet
import Derived.Deep.QuietTactic
namespace Go.Proofs.YthhgoenomehobaaGreat.mm
set_option maxRecDepth 100000
set_option linter.unusedVariables false
open Go.Value renaming int → O, slice → Y
open Go.IntKind renaming i64 → J
section
open Go.ChangeShapes Go.WideShapes Go.ChangeAt Go.RowKit Go.Joins
structure TkV where
 aK:Option Addr
 cK:Nat
 aH:Option Addr
 cH:Nat
def Fr.enc(f:Fr)(aK:Option Addr)(cK:Nat):List Value :=
 [O J f.c.kind,O J f.c.a,O J f.c.b,O J f.c.time,O J f.c.bk,O J f.c.slot,O J f.pl,O J f.cur,O J f.prev,O J f.slot,O J f.n,Y aK f.keys.length cK,.bool f.done,O J f.e]
def Tk.enc(t:Tk)(p:TkV):List Value:=.bool t.busy :: (t.f.enc p.aK p.cK ++ [Y p.aH t.held.length p.cH])
theorem Fr.Io(f:Fr)(aK:Option Addr)(cK:Nat):(f.enc aK cK).length=14:=rfl
theorem Tk.Io(t:Tk)(p:TkV):(t.enc p).length=16:=rfl
structure J6(w:World)(ao:Option Addr)(cap:Nat)(l:List (Tk × TkV)):Prop where
 le:l.length<=cap
 max:l.length*160<=140737488351232
 nil:ao=none->cap=0
 at_:l.length=0\/∃ b o,ao=some ⟨b,o,none⟩/\∀ i (h:i<l.length) q,q<16->w.cell? ⟨b,o+i*16+q,none⟩=(l[i].1.enc l[i].2)[q]?
 keys:∀ p∈l,Ag w p.2.aK p.2.cK p.1.f.keys
 held:∀ p∈l,Ea w p.2.aH p.2.cH p.1.held
theorem b3j(w:World):J6 w none 0 []:=⟨by decide,by decide,fun _=>rfl,.inl rfl,(fun _ h=>by cases h),(fun _ h=>by cases h)⟩
theorem Wh(t:Tk)(p:TkV){q:Nat}(h:q<16):∃ v,(t.enc p)[q]?=some v:=⟨_,List.getElem?_eq_getElem (by rw[Tk.Io];exact h)⟩
theorem J6.below{w w':World}{ao:Option Addr}{cap:Nat}{l:List (Tk × TkV)}(r:J6 w ao cap l)(hb:Below w.heap.size w w'):J6 w' ao cap l:=by
 refine⟨r.le,r.max,r.nil,?_,fun p hp=>(r.keys p hp).below hb,fun p hp=>(r.held p hp).below hb⟩
 rcases r.at_ with h|⟨b,o,h,hc⟩
 ·exact .inl h
 ·refine .inr ⟨b,o,h,fun i hi q hq=>?_⟩
  obtain⟨v,hv⟩:=Wh l[i].1 l[i].2 hq
  have c:=(hc i hi q hq).trans hv
  exact((Eg hb).1 _ _ (cell_lt c)).trans (hc i hi q hq)
theorem J6.cells{w:World}{b o cap:Nat}{l:List (Tk × TkV)}(r:J6 w (some ⟨b,o,none⟩) cap l){i:Nat}(h:i<l.length) :
  w.cell? ⟨b,o+i*16,none⟩=some (.bool l[i].1.busy)/\w.cell? ⟨b,o+i*16+1,none⟩=some (O J l[i].1.f.c.kind)/\w.cell? ⟨b,o+i*16+2,none⟩=some (O J l[i].1.f.c.a) /\
  w.cell? ⟨b,o+i*16+3,none⟩=some (O J l[i].1.f.c.b)/\w.cell? ⟨b,o+i*16+4,none⟩=some (O J l[i].1.f.c.time)/\w.cell? ⟨b,o+i*16+5,none⟩=some (O J l[i].1.f.c.bk) /\
  w.cell? ⟨b,o+i*16+6,none⟩=some (O J l[i].1.f.c.slot)/\w.cell? ⟨b,o+i*16+7,none⟩=some (O J l[i].1.f.pl)/\w.cell? ⟨b,o+i*16+8,none⟩=some (O J l[i].1.f.cur) /\
  w.cell? ⟨b,o+i*16+9,none⟩=some (O J l[i].1.f.prev)/\w.cell? ⟨b,o+i*16+10,none⟩=some (O J l[i].1.f.slot)/\w.cell? ⟨b,o+i*16+11,none⟩=some (O J l[i].1.f.n) /\
  w.cell? ⟨b,o+i*16+12,none⟩=some (Y l[i].2.aK l[i].1.f.keys.length l[i].2.cK)/\w.cell? ⟨b,o+i*16+13,none⟩=some (.bool l[i].1.f.done)/\w.cell? ⟨b,o+i*16+14,none⟩=some (O J l[i].1.f.e) /\
  w.cell? ⟨b,o+i*16+15,none⟩=some (Y l[i].2.aH l[i].1.held.length l[i].2.cH):=by
 rcases r.at_ with h0|⟨b',o',e,hc⟩
 ·omega
 injection e with e
 injection e with e1 e2
 subst e1 e2
 have c:=hc i h
 exact⟨c 0 (by omega),c 1 (by omega),c 2 (by omega),c 3 (by omega),c 4 (by omega),c 5 (by omega),c 6 (by omega),c 7 (by omega),c 8 (by omega),c 9 (by omega),c 10 (by omega),c 11 (by omega),c 12 (by omega),c 13 (by omega),c 14 (by omega),c 15 (by omega)⟩
theorem J6.addr{w:World}{ao:Option Addr}{cap:Nat}{l:List (Tk × TkV)}(r:J6 w ao cap l)(h:l.length≠0):∃ b o,ao=some ⟨b,o,none⟩:=by
 rcases r.at_ with h0|⟨b,o,e,_⟩
 ·exact absurd h0 h
 ·exact⟨b,o,e⟩
structure THi(lo:Nat)(ao:Option Addr)(l:List (Tk × TkV)):Prop where
 row:∀ ad,ao=some ad->lo<=ad.block
 keys:∀ p∈l,∀ ad,p.2.aK=some ad->lo<=ad.block
 held:∀ p∈l,∀ ad,p.2.aH=some ad->lo<=ad.block
theorem THi.mono{lo lo':Nat}{ao:Option Addr}{l:List (Tk × TkV)}(h:THi lo ao l)(hl:lo'<=lo):THi lo' ao l :=
 ⟨fun a e=>Nat.le_trans hl (h.row a e),fun p hp a e=>Nat.le_trans hl (h.keys p hp a e),fun p hp a e=>Nat.le_trans hl (h.held p hp a e)⟩
def Gh(lo:Nat)(w:World)(v:Value)(W:Wd):Prop :=
 ∃ aS aH aF aL cS cH cF cL aT cT l,v=.agg #[Y aS W.m.slots.length cS,Y aH W.m.heads.length cH,Y aF W.m.free.length cF,Y aL W.m.locks.length cL,O J W.m.now,Y aT W.ts.length cT] /\
  At w aS aH aF aL cS cH cF cL W.m/\Hi4 lo aS aH aF aL/\W.ts=l.map (·.1)/\J6 w aT cT l/\THi lo aT l
theorem Gh.below{lo:Nat}{w w':World}{v:Value}{W:Wd}(h:Gh lo w v W)(hb:Below w.heap.size w w'):Gh lo w' v W:=by
 obtain⟨aS,aH,aF,aL,cS,cH,cF,cL,aT,cT,l,e,A,hi,el,r,th⟩:=h
 exact⟨aS,aH,aF,aL,cS,cH,cF,cL,aT,cT,l,e,A.below hb,hi,el,r.below hb,th⟩
theorem Gh.mono{lo lo':Nat}{w:World}{v:Value}{W:Wd}(h:Gh lo w v W)(hl:lo'<=lo):Gh lo' w v W:=by
 obtain⟨aS,aH,aF,aL,cS,cH,cF,cL,aT,cT,l,e,A,hi,el,r,th⟩:=h
 exact⟨aS,aH,aF,aL,cS,cH,cF,cL,aT,cT,l,e,A,hi.mono hl,el,r,th.mono hl⟩
end
section
open Go.ChangeShapes Go.WideShapes Go.ChangeAt Go.RowKit Go.Joins
def hdE(m:Mm)(a:Int):Int:=if Be m a then 0 else 5
def tkE(m:Mm)(t:Tk):Int :=
 if 100<t.held.length then 2 else if Az (hdE m) t.held≠0 then Az (hdE m) t.held else if t.busy then frE m.slots.length m.heads.length t.f else 0
def wE(W:Wd):Int:=if chk W.m≠0 then chk W.m else if W.ts.length<1\/5<W.ts.length then 3 else Az (tkE W.m) W.ts
theorem b9v{W:Wd}(h:chk W.m≠0):wE W=chk W.m:=by unfold wE;rw[if_pos h]
theorem b7j{W:Wd}(h:chk W.m=0)(hn:W.ts.length<1\/5<W.ts.length):wE W=3:=by unfold wE;rw[if_neg (by simpa using h),if_pos hn]
theorem b7i{W:Wd}(h:chk W.m=0)(hn:¬ (W.ts.length<1\/5<W.ts.length)):wE W=Az (tkE W.m) W.ts:=by unfold wE;rw[if_neg (by simpa using h),if_neg hn]
theorem Wq{α β:Type}(f:β->Int)(g:α->β):∀ l:List α,Az f (l.map g)=Az (fun x=>f (g x)) l
 | []=>rfl
 | x :: l=>by simp only[List.map_cons,Az];rw[Wq f g l]
theorem b3h{m:Mm}{t:Tk}(h:100<t.held.length):tkE m t=2:=by unfold tkE;rw[if_pos h]
theorem b3f{m:Mm}{t:Tk}(h:¬ 100<t.held.length)(he:Az (hdE m) t.held=5):tkE m t=5:=by unfold tkE;rw[if_neg h,he];rfl
theorem b3e{m:Mm}{t:Tk}(h:¬ 100<t.held.length)(he:Az (hdE m) t.held=0)(hb:t.busy=true):tkE m t=frE m.slots.length m.heads.length t.f:=by
 unfold tkE;rw[if_neg h,he,if_neg (by simp),if_pos hb]
theorem b3g{m:Mm}{t:Tk}(h:¬ 100<t.held.length)(he:Az (hdE m) t.held=0)(hb:t.busy=false):tkE m t=0:=by
 unfold tkE;rw[if_neg h,he,if_neg (by simp),if_neg (by simp[hb])]
theorem Zy{W:Wd}:wE W=0 ↔ chk W.m=0/\1<=W.ts.length/\W.ts.length<=5/\∀ t∈W.ts,tkE W.m t=0:=by
 unfold wE
 by_cases h:chk W.m=0
 ·rw[if_neg (by simpa using h)]
  by_cases hn:W.ts.length<1\/5<W.ts.length
  ·rw[if_pos hn]
   constructor
   ·intro h;cases h
   ·rintro ⟨_,h1,h2,_⟩;omega
  ·rw[if_neg hn,Ia]
   exact⟨fun h'=>⟨h,by omega,by omega,h'⟩,fun h'=>h'.2.2.2⟩
 ·rw[if_pos h]
  exact⟨fun h'=>absurd h' h,fun h'=>absurd h'.1 h⟩
theorem Wx{m:Mm}{l:List Int}:Az (hdE m) l=0 ↔ ∀ a∈l,Be m a=true:=by
 rw[Ia]
 constructor
 ·intro h a ha
  have:=h a ha
  unfold hdE at this
  cases hs:Be m a
  ·rw[hs] at this;cases this
  ·rfl
 ·intro h a ha
  unfold hdE
  rw[h a ha];rfl
theorem Xy{m:Mm}{t:Tk}:tkE m t=0 ↔ t.held.length<=100/\(∀ a∈t.held,Be m a=true)/\(t.busy=true->frE m.slots.length m.heads.length t.f=0):=by
 unfold tkE
 by_cases h:100<t.held.length
 ·rw[if_pos h]
  exact⟨fun h'=>(by cases h'),fun h'=>absurd h'.1 (by omega)⟩
 ·rw[if_neg h]
  by_cases he:Az (hdE m) t.held=0
  ·rw[he,if_neg (by simp)]
   cases hb:t.busy
   ·exact⟨fun _=>⟨by omega,Wx.1 he,(fun h=>by cases h)⟩,fun _=>rfl⟩
   ·exact⟨fun h'=>⟨by omega,Wx.1 he,fun _=>h'⟩,fun h'=>h'.2.2 rfl⟩
  ·rw[if_pos he]
   exact⟨fun h'=>absurd h' he,fun h'=>absurd (Wx.2 h'.2.1) he⟩
theorem Ew{w:World}{B:Nat}{v0 v1 v2 v3 v4 v5:Value}{t:TypeId}(h:w.heap[B]?=some (.cells #[v0,v1,v2,v3,v4,v5] t (0,0))) :
  w.cell? ⟨B,0,none⟩=some v0/\w.cell? ⟨B,1,none⟩=some v1/\w.cell? ⟨B,2,none⟩=some v2/\w.cell? ⟨B,3,none⟩=some v3/\w.cell? ⟨B,4,none⟩=some v4/\w.cell? ⟨B,5,none⟩=some v5/\B<w.heap.size :=
 ⟨by rw[cell_of_block h];rfl,by rw[cell_of_block h];rfl,by rw[cell_of_block h];rfl,by rw[cell_of_block h];rfl,by rw[cell_of_block h];rfl,by rw[cell_of_block h];rfl,lt_of_block h⟩
theorem b3d{w:World}{B:Nat}{v0 v1 v2 v3 v4 v5 v6 v7 v8 v9 v10 v11 v12 v13 v14 v15:Value}{t:TypeId}(h:w.heap[B]?=some (.cells #[v0,v1,v2,v3,v4,v5,v6,v7,v8,v9,v10,v11,v12,v13,v14,v15] t (0,0))) :
  w.cell? ⟨B,0,none⟩=some v0/\w.cell? ⟨B,1,none⟩=some v1/\w.cell? ⟨B,2,none⟩=some v2/\w.cell? ⟨B,3,none⟩=some v3/\w.cell? ⟨B,4,none⟩=some v4/\w.cell? ⟨B,5,none⟩=some v5 /\
  w.cell? ⟨B,6,none⟩=some v6/\w.cell? ⟨B,7,none⟩=some v7/\w.cell? ⟨B,8,none⟩=some v8/\w.cell? ⟨B,9,none⟩=some v9/\w.cell? ⟨B,10,none⟩=some v10/\w.cell? ⟨B,11,none⟩=some v11 /\
  w.cell? ⟨B,12,none⟩=some v12/\w.cell? ⟨B,13,none⟩=some v13/\w.cell? ⟨B,14,none⟩=some v14/\w.cell? ⟨B,15,none⟩=some v15/\B<w.heap.size :=
 ⟨by rw[cell_of_block h];rfl,by rw[cell_of_block h];rfl,by rw[cell_of_block h];rfl,by rw[cell_of_block h];rfl,by rw[cell_of_block h];rfl,by rw[cell_of_block h];rfl,by rw[cell_of_block h];rfl,by rw[cell_of_block h];rfl,by rw[cell_of_block h];rfl,by rw[cell_of_block h];rfl,by rw[cell_of_block h];rfl,by rw[cell_of_block h];rfl,by rw[cell_of_block h];rfl,by rw[cell_of_block h];rfl,by rw[cell_of_block h];rfl,by rw[cell_of_block h];rfl,lt_of_block h⟩
end
section
open Go.ChangeShapes Go.WideShapes Go.ChangeAt Go.RowKit Go.Joins
theorem Bz{w:World}{B o:Nat}{cs:Array Value}{t:TypeId}{fr:Nat × Nat}{vs:List Value}(h:w.heap[B]?=some (.cells cs t fr))(e:(cs.extract o (o+vs.length)).toList=vs):w.rangeAt B o vs:=by
 have:=World.rangeAt_of_block h o vs.length
 rw[e] at this
 exact this
theorem Dn{w:World}{B o n:Nat}{cs:Array Value}{t:TypeId}(h:w.heap[B]?=some (.cells cs t (0,0)))(e:o+n<=cs.size):w.there B o n:=fun j hj=>by
 refine⟨?_,unfrozen_of_block h _⟩
 rw[cell_of_block h]
 simp;omega
theorem Fq{w w':World}{B o n:Nat}{vs:List Value}(h:w.rangeAt B o vs)(hb:Below n w w')(hB:B<n):w'.rangeAt B o vs:=fun j v hv=>((Eg hb).1 _ _ hB).trans (h j v hv)
theorem J6.range{w:World}{b o cap:Nat}{l:List (Tk × TkV)}(r:J6 w (some ⟨b,o,none⟩) cap l){i:Nat}(h:i<l.length):w.rangeAt b (o+i*16) (l[i].1.enc l[i].2):=fun j v hv=>by
 have hj:j<16:=by
  have:=(List.getElem?_eq_some_iff.1 hv).1
  rwa [Tk.Io] at this
 rcases r.at_ with h0|⟨b',o',e,hc⟩
 ·omega
 injection e with e
 injection e with e1 e2
 subst e1 e2
 exact(hc i h j hj).trans hv
theorem a9m{ops:Array Oper}{rest:List Oper}{op:Oper}{a:Act}{w:World}{Q:Exit->Act->World->Prop}{t:Tk}{p:TkV}{B o:Nat}(hgd:op.guard=none)(x:Operand)(ho:op.op=.load 49 x)(hx:a.eval x=.pointer (some ⟨B,o,none⟩))(h:w.rangeAt B o (t.enc p))(K:wpList Tryz.prog ops Q rest (a.put op.dst (.agg #[.bool t.busy,O J t.f.c.kind,O J t.f.c.a,O J t.f.c.b,O J t.f.c.time,O J t.f.c.bk,O J t.f.c.slot,O J t.f.pl,O J t.f.cur,O J t.f.prev,O J t.f.slot,O J t.f.n,Y p.aK t.f.keys.length p.cK,.bool t.f.done,O J t.f.e,Y p.aH t.held.length p.cH])) w):wpList Tryz.prog ops Q (op :: rest) a w :=
 wpList_load_mid hgd 49 x ho B o hx (t.enc p) _ h Tryz.underlying49 rfl (by kernel_rfl) K
theorem Zz{ops:Array Oper}{rest:List Oper}{op:Oper}{a:Act}{w:World}{Q:Exit->Act->World->Prop}{f:Fr}{aK:Option Addr}{cK:Nat}{B o:Nat}(hgd:op.guard=none)(x:Operand)(ho:op.op=.load 47 x)(hx:a.eval x=.pointer (some ⟨B,o,none⟩))(h:w.rangeAt B o (f.enc aK cK))(K:wpList Tryz.prog ops Q rest (a.put op.dst (.agg #[O J f.c.kind,O J f.c.a,O J f.c.b,O J f.c.time,O J f.c.bk,O J f.c.slot,O J f.pl,O J f.cur,O J f.prev,O J f.slot,O J f.n,Y aK f.keys.length cK,.bool f.done,O J f.e])) w):wpList Tryz.prog ops Q (op :: rest) a w :=
 wpList_load_mid hgd 47 x ho B o hx (f.enc aK cK) _ h Tryz.underlying47 rfl (by kernel_rfl) K
theorem Ky{ops:Array Oper}{rest:List Oper}{op:Oper}{a:Act}{w:World}{Q:Exit->Act->World->Prop}{v0 v1 v2 v3 v4 v5:Value}{B o:Nat}(hgd:op.guard=none)(x:Operand)(ho:op.op=.load 28 x)(hx:a.eval x=.pointer (some ⟨B,o,none⟩))(h:w.rangeAt B o [v0,v1,v2,v3,v4,v5])(K:wpList Tryz.prog ops Q rest (a.put op.dst (.agg #[v0,v1,v2,v3,v4,v5])) w):wpList Tryz.prog ops Q (op :: rest) a w :=
 wpList_load_mid hgd 28 x ho B o hx [v0,v1,v2,v3,v4,v5] _ h Tryz.underlying28 rfl (by kernel_rfl) K
theorem b9x{ops:Array Oper}{rest:List Oper}{op:Oper}{a:Act}{w:World}{Q:Exit->Act->World->Prop}{v0 v1 v2 v3 v4:Value}{B o:Nat}(hgd:op.guard=none)(x:Operand)(ho:op.op=.load 25 x)(hx:a.eval x=.pointer (some ⟨B,o,none⟩))(h:w.rangeAt B o [v0,v1,v2,v3,v4])(K:wpList Tryz.prog ops Q rest (a.put op.dst (.agg #[v0,v1,v2,v3,v4])) w):wpList Tryz.prog ops Q (op :: rest) a w :=
 wpList_load_mid hgd 25 x ho B o hx [v0,v1,v2,v3,v4] _ h Tryz.underlying25 rfl (by kernel_rfl) K
theorem b3k{ops:Array Oper}{rest:List Oper}{op:Oper}{a:Act}{w:World}{Q:Exit->Act->World->Prop}{c:Cl}{B o:Nat}(hgd:op.guard=none)(x:Operand)(ho:op.op=.load 32 x)(hx:a.eval x=.pointer (some ⟨B,o,none⟩))(h:w.rangeAt B o [O J c.kind,O J c.a,O J c.b,O J c.time,O J c.bk,O J c.slot])(K:wpList Tryz.prog ops Q rest (a.put op.dst (.agg #[O J c.kind,O J c.a,O J c.b,O J c.time,O J c.bk,O J c.slot])) w):wpList Tryz.prog ops Q (op :: rest) a w :=
 wpList_load_mid hgd 32 x ho B o hx [O J c.kind,O J c.a,O J c.b,O J c.time,O J c.bk,O J c.slot] _ h Tryz.underlying32 rfl (by kernel_rfl) K
theorem a2e{ops:Array Oper}{rest:List Oper}{op:Oper}{a:Act}{w:World}{Q:Exit->Act->World->Prop}{x0:Pk}{B o:Nat}(hgd:op.guard=none)(x:Operand)(ho:op.op=.load 34 x)(hx:a.eval x=.pointer (some ⟨B,o,none⟩))(h:w.rangeAt B o [O J x0.Bc,.bool x0.step,.bool x0.tick,O J x0.c.kind,O J x0.c.a,O J x0.c.b,O J x0.c.time,O J x0.c.bk,O J x0.c.slot])(K:wpList Tryz.prog ops Q rest (a.put op.dst (.agg #[O J x0.Bc,.bool x0.step,.bool x0.tick,O J x0.c.kind,O J x0.c.a,O J x0.c.b,O J x0.c.time,O J x0.c.bk,O J x0.c.slot])) w):wpList Tryz.prog ops Q (op :: rest) a w :=
 wpList_load_mid hgd 34 x ho B o hx [O J x0.Bc,.bool x0.step,.bool x0.tick,O J x0.c.kind,O J x0.c.a,O J x0.c.b,O J x0.c.time,O J x0.c.bk,O J x0.c.slot] _ h Tryz.underlying34 rfl (by kernel_rfl) K
theorem Qz{ops:Array Oper}{rest:List Oper}{op:Oper}{a:Act}{w:World}{Q:Exit->Act->World->Prop}{f:Fr}{aK:Option Addr}{cK:Nat}{B o:Nat}(hgd:op.guard=none)(x y:Operand)(ho:op.op=.store 47 x y)(hx:a.eval x=.pointer (some ⟨B,o,none⟩))(hy:a.eval y=.agg #[O J f.c.kind,O J f.c.a,O J f.c.b,O J f.c.time,O J f.c.bk,O J f.c.slot,O J f.pl,O J f.cur,O J f.prev,O J f.slot,O J f.n,Y aK f.keys.length cK,.bool f.done,O J f.e])(h:w.there B o 14)(K:wpList Tryz.prog ops Q rest (a.put op.dst undef) (w.setCells B o (f.enc aK cK))):wpList Tryz.prog ops Q (op :: rest) a w :=
 wpList_store_mid hgd 47 x y ho B o #[O J f.c.kind,O J f.c.a,O J f.c.b,O J f.c.time,O J f.c.bk,O J f.c.slot,O J f.pl,O J f.cur,O J f.prev,O J f.slot,O J f.n,Y aK f.keys.length cK,.bool f.done,O J f.e] hx hy h (by kernel_rfl) (by kernel_rfl) K
theorem Qd{ops:Array Oper}{rest:List Oper}{op:Oper}{a:Act}{w:World}{Q:Exit->Act->World->Prop}{v0 v1 v2 v3 v4 v5:Value}{B o:Nat}(hgd:op.guard=none)(x y:Operand)(ho:op.op=.store 28 x y)(hx:a.eval x=.pointer (some ⟨B,o,none⟩))(hy:a.eval y=.agg #[v0,v1,v2,v3,v4,v5])(h:w.there B o 6)(h1:(#[v0,v1,v2,v3,v4,v5].all (·.oneCell'))=true)(K:wpList Tryz.prog ops Q rest (a.put op.dst undef) (w.setCells B o [v0,v1,v2,v3,v4,v5])):wpList Tryz.prog ops Q (op :: rest) a w :=
 wpList_store_mid hgd 28 x y ho B o #[v0,v1,v2,v3,v4,v5] hx hy h (by kernel_rfl) h1 K
theorem ws_5{ops:Array Oper}{rest:List Oper}{op:Oper}{a:Act}{w:World}{Q:Exit->Act->World->Prop}{v0 v1 v2 v3 v4:Value}{B o:Nat}(hgd:op.guard=none)(x y:Operand)(ho:op.op=.store 25 x y)(hx:a.eval x=.pointer (some ⟨B,o,none⟩))(hy:a.eval y=.agg #[v0,v1,v2,v3,v4])(h:w.there B o 5)(h1:(#[v0,v1,v2,v3,v4].all (·.oneCell'))=true)(K:wpList Tryz.prog ops Q rest (a.put op.dst undef) (w.setCells B o [v0,v1,v2,v3,v4])):wpList Tryz.prog ops Q (op :: rest) a w :=
 wpList_store_mid hgd 25 x y ho B o #[v0,v1,v2,v3,v4] hx hy h (by kernel_rfl) h1 K
theorem Ae{B k:Nat}(h:k≠B):∀ (vs:List Value) (o:Nat) (w:World),(w.setCells B o vs).heap[k]?=w.heap[k]?
 | [],_,_=>rfl
 | v :: vs,o,w=>by
  rw[World.setCells,Ae h vs (o+1),Below.heap_setCell _ _ _ _ (by dsimp only;exact h)]
theorem setCells_size{B:Nat}:∀ (vs:List Value) (o:Nat) (w:World),(w.setCells B o vs).heap.size=w.heap.size
 | [],_,_=>rfl
 | v :: vs,o,w=>by
  rw[World.setCells,setCells_size vs (o+1),World.size_setCell]
theorem Au{B:Nat}:∀ (vs:List Value) (o:Nat) (w:World),(w.setCells B o vs).os=w.os/\(w.setCells B o vs).tape=w.tape/\(w.setCells B o vs).output=w.output
 | [],_,_=>⟨rfl,rfl,rfl⟩
 | v :: vs,o,w=>by
  rw[World.setCells]
  exact Au vs (o+1) (w.setCell ⟨B,o,none⟩ v)
end
section
open Go.ChangeShapes Go.WideShapes Go.ChangeAt Go.RowKit Go.Joins
theorem b0j{α:Type}{f:α->Int}{l:List α}{k:Nat}(h:k<l.length){e E:Int}(he:f l[k]=e)(h0:e≠0)(H:E=Az f (l.drop k)):E=e:=by
 rw[H,Me f l k h,he,if_pos h0]
theorem b4x{α:Type}{f:α->Int}{l:List α}{k:Nat}(h:k<l.length){E:Int}(he:f l[k]=0)(H:E=Az f (l.drop k)):E=Az f (l.drop (k+1)):=by
 rw[H,Me f l k h,he,if_neg (by simp)]
theorem drop_end{α:Type}{f:α->Int}{l:List α}{k:Nat}(h:l.length<=k){E:Int}(H:E=Az f (l.drop k)):E=0:=by
 rw[H,Qo f l k h]
theorem a5w{l:List Int}{p:Int->Bool}{k:Nat}(hk:k<l.length)(h:(l.take k).any p=false)(h':p l[k]=false):(l.take (k+1)).any p=false:=by
 rw[List.take_succ_eq_append_getElem hk,List.any_append,h]
 simp[h']
theorem a9v{p:Int->Bool}{l:List Int}{k:Nat}(h:k<l.length)(hx:p l[k]=true):l.any p=true :=
 List.any_eq_true.2 ⟨_,List.getElem_mem h,hx⟩
set_option maxHeartbeats 1600000 in
theorem b8u(F:Nat)(caps:Array Value)(p:Int->Bool)(ao:Option Addr)(cap:Nat)(l:List Int)(w:World)(hat:Ea w ao cap l)(hF:∀ args W,(callFunc F args).run Tryz.prog W=.ok (.enter F args) W)
  (hp:∀ (x:Int) W,Below w.heap.size w W->Calls Tryz.prog F (#[O J x] ++ caps) W fun e W'=>e=.returned (.bool (p x))/\Below W.heap.size W W') :
  Calls Tryz.prog 84 #[Y ao l.length cap,.func (.func F) #[] caps] w fun e w'=>∃ i:Int,e=.returned (O J i)/\decide (0<=i)=l.any p/\Below w.heap.size w w':=by
 have m1:=hat.max
 have HAT:Hid (Ea w ao cap l):=hat
 have HP:Hid (∀ (x:Int) W,Below w.heap.size w W->Calls Tryz.prog F (#[O J x] ++ caps) W fun e W'=>e=.returned (.bool (p x))/\Below W.heap.size W W'):=hp
 have HFn:Hid (∀ args W,(callFunc F args).run Tryz.prog W=.ok (.enter F args) W):=hF
 clear hat hp hF
 go_enter Tryz.func84,Tryz.ntmps84
 go_wp2
 go_loopw [8] (fun i wr=>∃ k:Nat,k<=l.length/\i=O J k/\Hid (Below w.heap.size w wr)/\Hid ((l.take k).any p=false)) (fun i _=>l.length - (intOf i).toNat)
 case atStart=>exact⟨0,Nat.zero_le _,rfl,Below.refl _ _,by show _=_;simp⟩
 case round =>
  obtain⟨k,hk,rfl,HB,HC⟩:=hrel
  by_cases hlt:k<l.length
  ·rcases (HAT.out.below HB.out).at_ with h0|⟨bk,ok,rfl,hc⟩
   ·omega
   have c0:=hc k hlt
   clear hc
   generalize hy:l[k]=y at c0
   have HX:Hid (l[k]=y):=hy
   clear hy
   go_wp2_with fail
   rw[HFn.out]
   refine(HP.out y wr HB.out).mono ?_
   rintro e w1 ⟨rfl,hb1⟩
   have HB1:Hid (Below w.heap.size w w1):=HB.out.trans (hb1.mono HB.out.size)
   clear hb1 c0
   cases hh:p y
   ·have HH:Hid ((l.take (k+1)).any p=false):=a5w hlt HC.out (by rw[HX.out];exact hh)
    go_wp2
    go_roundw
    case rel=>exact⟨k+1,by omega,by go_num,HB1,HH⟩
    case measure=>simp[intOf];omega
   ·have HH:Hid (l.any p=true):=a9v hlt (by rw[HX.out];exact hh)
    go_wp2
    go_ret
    exact⟨k,rfl,by rw[HH.out];simp,HB1.out⟩
  ·have HH:Hid (l.any p=false):=by
    have:=HC.out
    rw[show k=l.length by omega,List.take_length] at this
    exact this
   go_wp2
   go_ret
   exact⟨-1,rfl,by rw[HH.out];rfl,HB.out⟩
theorem a6f(F:Nat)(caps:Array Value)(p:Int->Bool)(ao:Option Addr)(cap:Nat)(l:List Int)(w:World)(hat:Ea w ao cap l)(hF:∀ args W,(callFunc F args).run Tryz.prog W=.ok (.enter F args) W)
  (hp:∀ (x:Int) W,Below w.heap.size w W->Calls Tryz.prog F (#[O J x] ++ caps) W fun e W'=>e=.returned (.bool (p x))/\Below W.heap.size W W') :
  Calls Tryz.prog 37 #[Y ao l.length cap,.func (.func F) #[] caps] w fun e w'=>e=.returned (.bool (l.any p))/\Below w.heap.size w w':=by
 have HI:Hid (Calls Tryz.prog 84 #[Y ao l.length cap,.func (.func F) #[] caps] w fun e w'=>∃ i:Int,e=.returned (O J i)/\decide (0<=i)=l.any p/\Below w.heap.size w w'):=b8u F caps p ao cap l w hat hF hp
 clear hat hF hp
 go_enter Tryz.func37,Tryz.ntmps37
 go_wp2_with fail
 refine HI.out.mono ?_
 rintro e w1 ⟨i,rfl,hd,hb⟩
 have HB:Hid (Below w.heap.size w w1):=hb
 have HD:Hid (decide (0<=i)=l.any p):=hd
 clear hb hd
 go_wp2
 go_ret
 exact⟨by rw[<- HD.out];rfl,HB.out⟩
theorem fnCT:∀ args W,(callFunc 110 args).run Tryz.prog W=.ok (.enter 110 args) W:=fun _ _=>by kernel_rfl
theorem litCT(M:Mm)(aS aH aF aL:Option Addr)(cS cH cF cL B:Nat)(x:Int)(w:World)(hB:w.heap[B]?=some (.cells #[Y aS M.slots.length cS,Y aH M.heads.length cH,Y aF M.free.length cF,Y aL M.locks.length cL,O J M.now] 25 (0,0)))(m1:M.slots.length<=9223372036854775807) :
  Calls Tryz.prog 110 (#[O J x] ++ #[.pointer (some ⟨B,0,none⟩)]) w fun e w'=>e=.returned (.bool (!Be M x))/\Below w.heap.size w w':=by
 obtain⟨q0,q1,q2,q3,q4,f0,f1,f2,f3,f4,qs⟩:=Aj hB
 have HI:Hid (Calls Tryz.prog 111 #[.agg #[Y aS M.slots.length cS,Y aH M.heads.length cH,Y aF M.free.length cF,Y aL M.locks.length cL,O J M.now],O J x] w fun e w'=>e=.returned (.bool (Be M x))/\Below w.heap.size w w'):=Fz aS aH aF aL M.slots.length M.heads.length M.free.length M.locks.length cS cH cF cL M.now x w m1
 clear hB f0 f1 f2 f3 f4
 generalize Be M x=b at *
 go_enter Tryz.func110,Tryz.ntmps110
 go_wp2_with fail
 refine HI.out.mono ?_
 rintro e w1 ⟨rfl,hb1⟩
 clear q0 q1 q2 q3 q4
 go_wp2
 go_ret
 exact⟨rfl,hb1⟩
theorem Uo(M:Mm):∀ (l:List Int),Az (hdE M) l=if l.any (fun x=>!Be M x) then 5 else 0
 | []=>rfl
 | x :: l=>by
  have ih:=Uo M l
  simp only[Az,List.any_cons,ih]
  unfold hdE
  by_cases h:Be M x=true
  ·simp[h]
  ·have h':Be M x=false:=by simpa using h
   simp[h']
set_option maxHeartbeats 6400000 in
theorem a2n(M:Mm)(t:Tk)(p:TkV)(aS aH aF aL:Option Addr)(cS cH cF cL:Nat)(w:World)(hr:Ea w p.aH p.cH t.held)(m1:M.slots.length<=9223372036854775000)(m2:M.heads.length<=9223372036854775000)(m3:t.f.keys.length<=9223372036854775807) :
  Calls Tryz.prog 63 #[.agg #[Y aS M.slots.length cS,Y aH M.heads.length cH,Y aF M.free.length cF,Y aL M.locks.length cL,O J M.now],.agg #[.bool t.busy,O J t.f.c.kind,O J t.f.c.a,O J t.f.c.b,O J t.f.c.time,O J t.f.c.bk,O J t.f.c.slot,O J t.f.pl,O J t.f.cur,O J t.f.prev,O J t.f.slot,O J t.f.n,Y p.aK t.f.keys.length p.cK,.bool t.f.done,O J t.f.e,Y p.aH t.held.length p.cH]] w fun e w'=>e=.returned (O J (tkE M t))/\Below w.heap.size w w':=by
 have m4:=hr.max
 obtain⟨E0,hE0⟩:∃ x,x=tkE M t:=⟨_,rfl⟩
 rw[<- hE0]
 have HV0:Hid (E0=tkE M t):=hE0
 clear hE0
 obtain⟨ox,hox⟩:∃ o:Obj,o=.cells #[Y aS M.slots.length cS,Y aH M.heads.length cH,Y aF M.free.length cF,Y aL M.locks.length cL,O J M.now] 25:=⟨_,rfl⟩
 obtain⟨oy,hoy⟩:∃ o:Obj,o=.cells #[.bool t.busy,O J t.f.c.kind,O J t.f.c.a,O J t.f.c.b,O J t.f.c.time,O J t.f.c.bk,O J t.f.c.slot,O J t.f.pl,O J t.f.cur,O J t.f.prev,O J t.f.slot,O J t.f.n,Y p.aK t.f.keys.length p.cK,.bool t.f.done,O J t.f.e,Y p.aH t.held.length p.cH] 49:=⟨_,rfl⟩
 have b0:Below w.heap.size w ((w.alloc ox).alloc oy):=below_alloc2 w ox oy
 have HX0:Hid (((w.alloc ox).alloc oy).heap[w.heap.size]?=some ox):=by show _=_;rw[Below.heap_alloc _ _ _ (by simp),heap_alloc_new]
 have HY0:Hid (((w.alloc ox).alloc oy).heap[w.heap.size+1]?=some oy):=by
  have:=heap_alloc_new (w.alloc ox) oy
  rwa [show (w.alloc ox).heap.size=w.heap.size+1 by simp] at this
 have HI0:Hid (Ea ((w.alloc ox).alloc oy) p.aH p.cH t.held):=hr.below b0
 clear hr
 obtain⟨bz,f,hd⟩:=t
 obtain⟨aK,cK,aD,cD⟩:=p
 dsimp only at *
 go_enter Tryz.func63,Tryz.ntmps63
 by_cases hh:100<hd.length
 ·have HV:Hid (E0=2):=HV0.out.trans (b3h hh)
  clear HX0 HY0 HI0
  go_wp2
  go_ret
  exact⟨by rw[HV.out];rfl,by rw[<- hox,<- hoy];exact b0⟩
 go_wp2_with fail
 rw[<- hox,<- hoy]
 generalize (w.alloc ox).alloc oy=W0 at *
 refine(a6f 110 #[.pointer (some ⟨w.heap.size,0,none⟩)] (fun x=>!Be M x) aD cD hd W0 HI0.out fnCT (fun x W hb=>litCT M aS aH aF aL cS cH cF cL w.heap.size x W ((hb.block _ (lt_of_block HX0.out)).trans (HX0.out.trans (by rw[hox]))) (by omega))).mono ?_
 rintro e w1 ⟨rfl,hb1⟩
 have HX1:Hid (w1.heap[w.heap.size]?=some ox):=(hb1.block _ (lt_of_block HX0.out)).trans HX0.out
 have HY1:Hid (w1.heap[w.heap.size+1]?=some oy):=(hb1.block _ (lt_of_block HY0.out)).trans HY0.out
 have b1:Below w.heap.size w w1:=b0.trans (hb1.mono b0.size)
 have HF:Hid (Az (hdE M) hd=if hd.any (fun x=>!Be M x) then 5 else 0):=Uo M hd
 clear HX0 HY0 HI0 b0 hb1
 subst hox hoy
 generalize hd.any (fun x=>!Be M x)=bb at *
 cases bb
 rotate_left
 ·have HV:Hid (E0=5):=HV0.out.trans (b3f hh (HF.out.trans rfl))
  go_wp2
  go_ret
  exact⟨by rw[HV.out];rfl,b1⟩
 have HF0:Hid (Az (hdE M) hd=0):=HF.out.trans rfl
 clear HF
 have l5:Hid (w1.rangeAt w.heap.size 0 [Y aS M.slots.length cS,Y aH M.heads.length cH,Y aF M.free.length cF,Y aL M.locks.length cL,O J M.now]):=Bz HX1.out rfl
 have lF:Hid (w1.rangeAt (w.heap.size+1) 1 (f.enc aK cK)):=Bz HY1.out rfl
 have t0:w1.cell? ⟨w.heap.size+1,0,none⟩=some (.bool bz):=by rw[cell_of_block HY1.out];rfl
 cases bz
 ·have HV:Hid (E0=0):=HV0.out.trans (b3g hh HF0.out rfl)
  clear l5 lF
  go_wp2
  go_ret
  exact⟨by rw[HV.out];rfl,b1⟩
 ·have HV:Hid (E0=frE M.slots.length M.heads.length f):=HV0.out.trans (b3e hh HF0.out rfl)
  go_wp2_with (first|refine b9x rfl _ rfl rfl l5.out ?_|refine Zz rfl _ rfl rfl lF.out ?_)
  refine(a0s aS aH aF aL M.slots.length M.heads.length M.free.length M.locks.length cS cH cF cL M.now f aK cK _ m1 m2 m3).mono ?_
  rintro e w2 ⟨rfl,hb2⟩
  rw[<- HV.out]
  have b2:Below w.heap.size w w2:=b1.trans (hb2.mono b1.size)
  clear l5 lF t0
  go_wp2
  go_ret
  exact⟨rfl,b2⟩
theorem Yv(n:Int)(w:World):Calls Tryz.prog 60 #[O J n] w fun e w'=>e=.returned (.bool (inB n 1 5))/\w=w':=by
 go_enter Tryz.func60,Tryz.ntmps60
 go_wp2_with (go_at_call 85;refine(Cm _ _ _ _).mono ?_;rintro e w1 ⟨rfl,rfl⟩)
 go_ret
 exact⟨rfl,rfl⟩
set_option maxHeartbeats 6400000 in
theorem Vt(M:Mm)(l:List (Tk × TkV))(aS aH aF aL:Option Addr)(cS cH cF cL:Nat)(aT:Option Addr)(cT:Nat)(w:World)(A:At w aS aH aF aL cS cH cF cL M)(r:J6 w aT cT l) :
  Calls Tryz.prog 19 #[.agg #[Y aS M.slots.length cS,Y aH M.heads.length cH,Y aF M.free.length cF,Y aL M.locks.length cL,O J M.now,Y aT l.length cT]] w fun e w'=>e=.returned (O J (wE ⟨M,l.map (·.1)⟩))/\Below w.heap.size w w':=by
 have m1:=A.s.max;have m2:=A.h.max;have m3:=r.max
 obtain⟨E0,hE0⟩:∃ x,x=wE ⟨M,l.map (·.1)⟩:=⟨_,rfl⟩
 rw[<- hE0]
 have HV0:Hid (E0=wE ⟨M,l.map (·.1)⟩):=hE0
 clear hE0
 obtain⟨om,hom⟩:∃ o:Obj,o=.cells #[Y aS M.slots.length cS,Y aH M.heads.length cH,Y aF M.free.length cF,Y aL M.locks.length cL,O J M.now,Y aT l.length cT] 28:=⟨_,rfl⟩
 have b0:Below w.heap.size w (w.alloc om):=Ad w om
 have HB0:Hid ((w.alloc om).heap[w.heap.size]?=some om):=heap_alloc_new w om
 have HA0:Hid _:=A.below b0
 have HR0:Hid (J6 (w.alloc om) aT cT l):=r.below b0
 clear A r
 go_enter Tryz.func19,Tryz.ntmps19
 go_wp2_with fail
 rw[<- hom]
 generalize w.alloc om=W0 at *
 refine(check_any M aS aH aF aL cS cH cF cL W0 HA0.out).mono ?_
 rintro e w1 ⟨rfl,hb1⟩
 have HB1:Hid (w1.heap[w.heap.size]?=some om):=(hb1.block _ (lt_of_block HB0.out)).trans HB0.out
 have HR1:Hid (J6 w1 aT cT l):=HR0.out.below hb1
 have b1:Below w.heap.size w w1:=b0.trans (hb1.mono b0.size)
 clear HB0 HA0 HR0 hb1 b0
 subst hom
 obtain⟨q0,q1,q2,q3,q4,q5,qs⟩:=Ew HB1.out
 by_cases hC:chk M=0
 rotate_left
 ·have h':(chk M != 0)=true:=by simpa using hC
  have HV:Hid (E0=chk M):=HV0.out.trans (b9v hC)
  generalize chk M=C at *
  go_wp2
  go_ret
  exact⟨by rw[HV.out];rfl,b1⟩
 have HC:Hid (chk M=0):=hC
 rw[hC]
 clear hC
 have HMB:Hid (∀ W,Calls Tryz.prog 60 #[O J (l.length:Int)] W fun e w'=>e=.returned (.bool (inB (l.length:Int) 1 5))/\W=w'):=fun W=>Yv _ W
 have hin:inB (l.length:Int) 1 5=true ↔ ¬ (l.length<1\/5<l.length):=by rw[Ai];omega
 have HIN:Hid (inB (l.length:Int) 1 5=true ↔ ¬ (l.length<1\/5<l.length)):=hin
 clear hin
 go_wp2_with fail
 refine(HMB.out _).mono ?_
 rintro e w1' ⟨rfl,rfl⟩
 generalize inB (l.length:Int) 1 5=bb at *
 cases bb
 ·have hn:l.length<1\/5<l.length:=Classical.byContradiction fun h=>by have:=HIN.out.2 h;cases this
  have HV:Hid (E0=3):=HV0.out.trans (b7j HC.out (by simpa using hn))
  clear hn
  go_wp2
  go_ret
  exact⟨by rw[HV.out];rfl,b1⟩
 have hn:=HIN.out.1 rfl
 have HV1:Hid (E0=Az (fun p:Tk × TkV=>tkE M p.1) l):=HV0.out.trans ((b7i HC.out (by show ¬ ((l.map (·.1)).length<1\/5<(l.map (·.1)).length);rw[List.length_map];exact hn)).trans (Wq _ _ _))
 clear HV0 HIN
 have hn1:¬ l.length=0:=by omega
 have hn5:l.length<=5:=by omega
 clear hn
 obtain⟨f,hf⟩:∃ f:Tk × TkV->Int,f=fun p=>tkE M p.1:=⟨_,rfl⟩
 rw[<- hf] at HV1
 have HF:Hid (f=fun p:Tk × TkV=>tkE M p.1):=hf
 clear hf
 obtain⟨b,o,rfl⟩:=HR1.out.addr (by omega)
 go_wp2
 go_loopw [21] (fun i wr=>∃ k:Nat,k<=l.length/\i=O J k/\Hid (Below w1.heap.size w1 wr)/\Hid (E0=Az f (l.drop k)))
  (fun i _=>l.length - (intOf i).toNat)
 case atStart=>exact⟨0,Nat.zero_le _,rfl,Below.refl _ _,by show _=_;rw[List.drop_zero];exact HV1.out⟩
 case round =>
  obtain⟨k,hk,rfl,HBl,HE⟩:=hrel
  clear HV1 q0 q1 q2 q3 q4 q5
  have bw:Below w.heap.size w wr:=b1.trans (HBl.out.mono b1.size)
  by_cases hlt:k<l.length
  ·have HBr:Hid (wr.heap[w.heap.size]?=_):=(HBl.out.block _ qs).trans HB1.out
   have HRr:Hid (J6 wr (some ⟨b,o,none⟩) cT l):=HR1.out.below HBl.out
   obtain⟨q0,q1,q2,q3,q4,q5,qs'⟩:=Ew HBr.out
   have hHd:=HRr.out.held _ (List.getElem_mem hlt)
   have hkm:=(HRr.out.keys _ (List.getElem_mem hlt)).max
   have hrg:=HRr.out.range hlt
   have hbl:b<wr.heap.size:=cell_lt (HRr.out.cells hlt).1
   obtain⟨p,hp⟩:∃ p,p=l[k]:=⟨_,rfl⟩
   rw[<- hp] at hrg hHd hkm
   have HP:Hid (l[k]=p):=hp.symm
   clear hp
   obtain⟨t,v⟩:=p
   dsimp only at hHd hkm hrg
   have lT:Hid (wr.rangeAt b (o+k*16) (t.enc v)):=hrg
   obtain⟨ot,hot⟩:∃ ot:Obj,ot=.cells #[.bool t.busy,O J t.f.c.kind,O J t.f.c.a,O J t.f.c.b,O J t.f.c.time,O J t.f.c.bk,O J t.f.c.slot,O J t.f.pl,O J t.f.cur,O J t.f.prev,O J t.f.slot,O J t.f.n,Y v.aK t.f.keys.length v.cK,.bool t.f.done,O J t.f.e,Y v.aH t.held.length v.cH] 49:=⟨_,rfl⟩
   have HT2:Hid ((wr.alloc ot).heap[wr.heap.size]?=some ot):=heap_alloc_new wr ot
   have b2:Below w.heap.size w (wr.alloc ot):=bw.alloc bw.size _
   have HD2:Hid (Ea (wr.alloc ot) v.aH v.cH t.held):=hHd.below (Ad wr ot)
   have HL2:Hid (Below w1.heap.size w1 (wr.alloc ot)):=HBl.out.alloc HBl.out.size _
   have HB2:Hid ((wr.alloc ot).heap[w.heap.size]?=_):=(Below.heap_alloc _ _ _ qs').trans HBr.out
   clear hHd HBr HRr HBl bw hrg q0 q1 q2 q3 q4 q5
   have l5:Hid ((wr.alloc ot).rangeAt w.heap.size 0 [Y aS M.slots.length cS,Y aH M.heads.length cH,Y aF M.free.length cF,Y aL M.locks.length cL,O J M.now]):=Bz HB2.out rfl
   subst hot
   have lT2:Hid ((wr.alloc (.cells #[.bool t.busy,O J t.f.c.kind,O J t.f.c.a,O J t.f.c.b,O J t.f.c.time,O J t.f.c.bk,O J t.f.c.slot,O J t.f.pl,O J t.f.cur,O J t.f.prev,O J t.f.slot,O J t.f.n,Y v.aK t.f.keys.length v.cK,.bool t.f.done,O J t.f.e,Y v.aH t.held.length v.cH] 49)).rangeAt wr.heap.size 0 (t.enc v)):=Bz HT2.out rfl
   go_wp2_with (first|refine a9m rfl _ rfl rfl lT.out ?_|refine b9x rfl _ rfl rfl l5.out ?_|refine a9m rfl _ rfl rfl lT2.out ?_)
   clear HT2 HB2 l5 lT2 lT
   generalize World.alloc wr _=W2 at *
   refine(a2n M t v aS aH aF aL cS cH cF cL W2 HD2.out (by omega) (by omega) (by omega)).mono ?_
   rintro e w3 ⟨rfl,hb3⟩
   have b3:Below w.heap.size w w3:=b2.trans (hb3.mono b2.size)
   have HL3:Hid (Below w1.heap.size w1 w3):=HL2.out.trans (hb3.mono HL2.out.size)
   have HG:Hid (f l[k]=tkE M t):=by show _=_;rw[HF.out,HP.out]
   clear HD2 HL2 b2 hb3
   generalize tkE M t=C0 at *
   by_cases hC:C0=0
   ·subst hC
    have HV:Hid (E0=Az f (l.drop (k+1))):=b4x hlt HG.out HE.out
    go_wp2
    go_roundw
    case rel=>exact⟨k+1,by omega,by go_num,HL3,HV⟩
    case measure=>simp[intOf];omega
   ·have h':(C0 != 0)=true:=by simpa using hC
    have HV:Hid (E0=C0):=b0j hlt HG.out hC HE.out
    go_wp2
    go_ret
    exact⟨by rw[HV.out];rfl,b3⟩
  ·have HV:Hid (E0=0):=drop_end (by omega) HE.out
   go_wp2
   go_ret
   exact⟨by rw[HV.out];rfl,bw⟩
end
section
open Go.ChangeShapes Go.WideShapes Go.ChangeAt Go.RowKit Go.Joins
def Ht(l:List (Tk × TkV)):List Value:=l.flatMap fun p=>p.1.enc p.2
theorem Lc:∀ l:List (Tk × TkV),(Ht l).length=l.length*16
 | []=>rfl
 | p :: l=>by
  have:=Lc l
  simp only[Ht,List.flatMap_cons,List.length_append,List.length_cons] at this ⊢
  rw[this,Tk.Io];omega
theorem Qn{l:List (Tk × TkV)}{i:Nat}(h:i<l.length):Ht l=Ht (l.take i)++(l[i].1.enc l[i].2++Ht (l.drop (i+1))):=by
 have e:l=l.take i++l[i] :: l.drop (i+1):=by rw[List.getElem_cons_drop h,List.take_append_drop]
 conv=>lhs;rw[e]
 simp only[Ht,List.flatMap_append,List.flatMap_cons]
theorem a0k{l:List (Tk × TkV)}{i:Nat}(h:i<l.length)(q:Tk × TkV):Ht (l.set i q)=Ht (l.take i)++(q.1.enc q.2++Ht (l.drop (i+1))):=by
 rw[List.set_eq_take_append_cons_drop,if_pos h]
 simp[Ht]
theorem Je{l:List (Tk × TkV)}{i:Nat}(h:i<l.length):(Ht (l.take i)).length=i*16:=by
 rw[Lc,List.length_take];congr 1;omega
theorem Ji{l:List (Tk × TkV)}{i q:Nat}(h:i<l.length)(hq:q<16):(Ht l)[i*16+q]?=(l[i].1.enc l[i].2)[q]?:=by
 rw[Qn h,List.getElem?_append_right (by rw[Je h];omega),Je h,List.getElem?_append_left (by rw[Tk.Io];omega)]
 congr 1;omega
theorem We{l:List (Tk × TkV)}{i o:Nat}(h:i<l.length)(vs:List Value)(q:Tk × TkV)(ho:o+vs.length<=16)
  (e:(l[i].1.enc l[i].2).take o++vs++(l[i].1.enc l[i].2).drop (o+vs.length)=q.1.enc q.2) :
  (Ht l).take (i*16+o)++vs++(Ht l).drop (i*16+o+vs.length)=Ht (l.set i q):=by
 have hl:=Je h
 have hn:(l[i].1.enc l[i].2).length=16:=Tk.Io _ _
 rw[a0k h,Qn h,<- e]
 rw[List.take_append,List.take_of_length_le (by omega),hl,show i*16+o - i*16=o by omega,List.take_append_of_le_length (by omega)]
 rw[List.drop_append,List.drop_of_length_le (by omega),hl,show i*16+o+vs.length - i*16=o+vs.length by omega,List.drop_append_of_le_length (by omega)]
 simp
theorem Rt{l:List (Tk × TkV)}{i o:Nat}(h:i<l.length)(v:Value)(q:Tk × TkV)(ho:o<16)(e:(l[i].1.enc l[i].2).set o v=q.1.enc q.2):(Ht l).set (i*16+o) v=Ht (l.set i q):=by
 have hl:=Je h
 have hn:(l[i].1.enc l[i].2).length=16:=Tk.Io _ _
 rw[a0k h,Qn h,<- e,List.set_append_right _ _ (by omega),hl,show i*16+o - i*16=o by omega,List.set_append_left _ _ (by omega)]
theorem Kv{lo size n g cap:Nat}{e:TypeId}:∀ (vs:List Value) (o:Nat) (w:World) (xs:List Value),w.ownsRow lo e size (Y (some ⟨g,0,none⟩) n cap) n xs->o+vs.length<=xs.length->(w.setCells g o vs).ownsRow lo e size (Y (some ⟨g,0,none⟩) n cap) n (xs.take o++vs++xs.drop (o+vs.length))
 | [],o,w,xs,h,hl=>by simpa [World.setCells] using h
 | v :: vs,o,w,xs,h,hl=>by
  rw[World.setCells]
  simp only[List.length_cons] at hl
  have:=Kv vs (o+1) (w.setCell ⟨g,o,none⟩ v) (xs.set o v) (h.stored o v).1 (by rw[List.length_set];omega)
  have e1:(xs.set o v).take (o+1)=xs.take o ++ [v]:=by
   rw[List.set_eq_take_append_cons_drop,if_pos (by omega),List.take_append,List.length_take,Nat.min_eq_left (by omega),List.take_of_length_le (by rw[List.length_take];omega),show o+1 - o=1 by omega]
   rfl
  have e2:(xs.set o v).drop (o+1+vs.length)=xs.drop (o+(v :: vs).length):=by
   rw[List.drop_set_of_lt (by omega)]
   congr 1;simp;omega
  rw[e1,e2] at this
  simpa using this
theorem Qr{w:World}{lo size n B o:Nat}{e:TypeId}{v:Value}{xs:List Value}(h:w.ownsRow lo e size v n xs)(hne:v.ownBlock≠some B)(vs:List Value):(w.setCells B o vs).ownsRow lo e size v n xs :=
 Dx h fun g hg=>Ae (fun e=>hne (by rw[hg,e])) vs o w
theorem a4v{w:World}{a:Option Addr}{c:Nat}{l:List (Int × Int)}(r:Ag w a c l)(hn:l.length≠0){ad:Addr}(e:a=some ad):ad.block<w.heap.size:=by
 rcases r.at_ with h0|⟨b,o,e',hc⟩
 ·exact absurd h0 hn
 ·rw[e] at e'
  injection e' with e'
  subst e'
  exact cell_lt (hc 0 (by omega)).1
theorem Eu{w w':World}{a:Option Addr}{c:Nat}{l:List (Int × Int)}(r:Ag w a c l)(h:l.length≠0->∀ ad,a=some ad->ad.block<w.heap.size->w'.heap[ad.block]?=w.heap[ad.block]?):Ag w' a c l:=by
 refine⟨r.le,r.max,r.nil,?_⟩
 by_cases hn:l.length=0
 ·exact .inl hn
 rcases r.at_ with h0|⟨b,o,e,hc⟩
 ·exact .inl h0
 ·refine .inr ⟨b,o,e,fun i hi=>?_⟩
  have hb:=h hn _ e (a4v r hn e)
  rw[World.cell?_of_block (a:=⟨b,o+i*2,none⟩) hb,World.cell?_of_block (a:=⟨b,o+i*2+1,none⟩) hb]
  exact hc i hi
theorem Yp{w w':World}{a:Option Addr}{c:Nat}{l:List Int}(r:Ea w a c l)(h:∀ ad,a=some ad->w'.heap[ad.block]?=w.heap[ad.block]?):Ea w' a c l:=by
 refine⟨r.le,r.max,r.nil,?_⟩
 rcases r.at_ with h0|⟨b,o,e,hc⟩
 ·exact .inl h0
 ·refine .inr ⟨b,o,e,fun i hi=>?_⟩
  have hb:=h _ e
  rw[World.cell?_of_block (a:=⟨b,o+i,none⟩) hb]
  exact hc i hi
structure Ce(w:World)(lo g cT:Nat)(l:List (Tk × TkV)):Prop where
 row:w.ownsRow lo 49 16 (Y (some ⟨g,0,none⟩) l.length cT) l.length (Ht l)
 few:l.length<=5
 hm:∀ p∈l,p.1.held.length<=1000
 held:∀ p∈l,w.ownsRow lo 3 1 (Y p.2.aH p.1.held.length p.2.cH) p.1.held.length (encI p.1.held)
 dj:∀ i j (hi:i<l.length) (hj:j<l.length),i≠j->∀ a b,l[i].2.aH=some a->l[j].2.aH=some b->a.block≠b.block
 keys:∀ p∈l,Ag w p.2.aK p.2.cK p.1.f.keys
 klo:∀ p∈l,∀ a,p.2.aK=some a->lo<=a.block
 kg:∀ p∈l,p.1.f.keys.length≠0->∀ a,p.2.aK=some a->a.block≠g
 kh:∀ p∈l,p.1.f.keys.length≠0->∀ q∈l,∀ a b,p.2.aK=some a->q.2.aH=some b->a.block≠b.block
def TB(g:Nat)(l:List (Tk × TkV))(k:Nat):Prop:=k=g\/(∃ p∈l,∃ a,p.2.aH=some a/\a.block=k)\/(∃ p∈l,∃ a,p.2.aK=some a/\a.block=k)
theorem Ce.hg{w:World}{lo g cT:Nat}{l:List (Tk × TkV)}(T:Ce w lo g cT l){p:Tk × TkV}(hp:p∈l){a:Addr}(ha:p.2.aH=some a):a.block≠g:=by
 have h1:=T.held p hp
 rw[ha] at h1
 intro e
 exact I5 h1 T.row (by decide) a.block rfl (by rw[e];rfl)
theorem Ce.hlo{w:World}{lo g cT:Nat}{l:List (Tk × TkV)}(T:Ce w lo g cT l){p:Tk × TkV}(hp:p∈l){a:Addr}(ha:p.2.aH=some a):lo<=a.block/\a.block<w.heap.size:=by
 have h1:=T.held p hp
 rw[ha] at h1
 exact h1.lt a.block rfl
theorem Ce.glo{w:World}{lo g cT:Nat}{l:List (Tk × TkV)}(T:Ce w lo g cT l):lo<=g/\g<w.heap.size:=T.row.lt g rfl
theorem Ce.same{w w':World}{lo g cT:Nat}{l:List (Tk × TkV)}(T:Ce w lo g cT l)(h:∀ k,k<w.heap.size->TB g l k->w'.heap[k]?=w.heap[k]?):Ce w' lo g cT l :=
 ⟨Dx T.row fun k hk=>h k (T.row.lt k hk).2 (.inl (by injection hk with hk;exact hk.symm)),T.few,T.hm,fun p hp=>Dx (T.held p hp) fun k hk=>h k ((T.held p hp).lt k hk).2 (.inr (.inl ⟨p,hp,(by
  cases ha:p.2.aH with
  | none=>rw[ha] at hk;cases hk
  | some a=>rw[ha] at hk;injection hk with hk;exact⟨a,rfl,hk⟩)⟩)),T.dj,fun p hp=>Eu (T.keys p hp) fun _ a ha hz=>h _ hz (.inr (.inr ⟨p,hp,a,ha,rfl⟩)),T.klo,T.kg,T.kh⟩
theorem Ce.below{w w':World}{lo g cT:Nat}{l:List (Tk × TkV)}(T:Ce w lo g cT l)(hb:Below w.heap.size w w'):Ce w' lo g cT l:=T.same fun k h _=>hb.block k h
theorem Ce.cell{w:World}{lo g cT:Nat}{l:List (Tk × TkV)}(T:Ce w lo g cT l){i q:Nat}(hi:i<l.length)(hq:q<16):w.cell? ⟨g,i*16+q,none⟩=(l[i].1.enc l[i].2)[q]?:=by
 rw[T.row.cellAt _ (by omega),Ji hi hq]
theorem Ce.Qs{w:World}{lo g cT:Nat}{l:List (Tk × TkV)}(T:Ce w lo g cT l){i:Nat}(hi:i<l.length):w.rangeAt g (i*16+1) (l[i].1.f.enc l[i].2.aK l[i].2.cK):=fun j v hv=>by
 have hj:j<14:=by
  have:=(List.getElem?_eq_some_iff.1 hv).1
  rwa [Fr.Io] at this
 rw[show i*16+1+j=i*16+(j+1) by omega,T.cell hi (by omega),<- hv]
 show ((l[i].1.f.enc l[i].2.aK l[i].2.cK) ++ [_])[j]?=_
 rw[List.getElem?_append_left (by rw[Fr.Io];omega)]
theorem Ce.there{w:World}{lo g cT:Nat}{l:List (Tk × TkV)}(T:Ce w lo g cT l){i o n:Nat}(hi:i<l.length)(hn:o+n<=16):w.there g (i*16+o) n:=fun j hj=>by
 refine⟨?_,T.row.frozenAt _⟩
 rw[Nat.add_assoc,T.cell hi (by omega)]
 obtain⟨v,hv⟩:=Wh l[i].1 l[i].2 (q:=o+j) (by omega)
 rw[hv];rfl
theorem Ce.busy{w:World}{lo g cT:Nat}{l:List (Tk × TkV)}(T:Ce w lo g cT l){i:Nat}(hi:i<l.length):w.cell? ⟨g,i*16,none⟩=some (.bool l[i].1.busy)/\w.frozen? ⟨g,i*16,none⟩=false:=⟨T.cell (q:=0) hi (by decide),T.row.frozenAt _⟩
theorem Ce.b0z{w:World}{lo g cT:Nat}{l:List (Tk × TkV)}(T:Ce w lo g cT l){i:Nat}(hi:i<l.length):w.cell? ⟨g,i*16+15,none⟩=some (Y l[i].2.aH l[i].1.held.length l[i].2.cH)/\w.frozen? ⟨g,i*16+15,none⟩=false:=⟨T.cell (q:=15) hi (by decide),T.row.frozenAt _⟩
theorem Ce.b7g{w:World}{lo g cT:Nat}{l:List (Tk × TkV)}(T:Ce w lo g cT l):J6 w (some ⟨g,0,none⟩) cT l:=by
 have hf:=T.few
 refine⟨?_,by omega,(fun h=>by cases h),.inr ⟨g,0,rfl,fun i hi q hq=>by rw[Nat.zero_add];exact T.cell hi hq⟩,T.keys,fun p hp=>?_⟩
 ·rcases T.row.2 with ⟨h,-⟩|⟨g',cap,cur,h,-,-,h2⟩
  ·cases h
  ·injection h with h1 h2' h3
   subst h3
   exact h2.1
 ·exact Ea.own (T.held p hp) (by have:=T.hm p hp;omega)
theorem Ce.thi{w:World}{lo g cT:Nat}{l:List (Tk × TkV)}(T:Ce w lo g cT l):THi lo (some ⟨g,0,none⟩) l :=
 ⟨(by rintro ad ⟨⟩;exact T.glo.1),fun p hp a ha=>T.klo p hp a ha,fun p hp a ha=>(T.hlo hp ha).1⟩
theorem J4{l:List (Tk × TkV)}{i j:Nat}{q:Tk × TkV}(hi:i<l.length)(hj:j<(l.set i q).length):(j=i/\(l.set i q)[j]=q)\/(j≠i/\∃ h:j<l.length,(l.set i q)[j]=l[j]):=by
 by_cases e:j=i
 ·subst e;exact .inl ⟨rfl,by simp⟩
 ·refine .inr ⟨e,by simpa using hj,?_⟩
  rw[List.getElem_set_ne (fun h=>e h.symm)]
theorem Kw{l:List (Tk × TkV)}{i:Nat}{q p:Tk × TkV}(hi:i<l.length)(hp:p∈l.set i q):p=q\/p∈l:=by
 rcases List.mem_or_eq_of_mem_set hp with h|h
 ·exact .inr h
 ·exact .inl h
theorem Ce.b6k{w:World}{lo g cT:Nat}{l:List (Tk × TkV)}(T:Ce w lo g cT l){i:Nat}(hi:i<l.length)(f:Fr)(a:Option Addr)(c:Nat)(hk:Ag w a c f.keys)(hlo:∀ ad,a=some ad->lo<=ad.block)(hg:f.keys.length≠0->∀ ad,a=some ad->ad.block≠g)
  (hh:f.keys.length≠0->∀ q∈l,∀ x b,a=some x->q.2.aH=some b->x.block≠b.block) :
  Ce (w.setCells g (i*16+1) (f.enc a c)) lo g cT (l.set i (⟨l[i].1.busy,f,l[i].1.held⟩,⟨a,c,l[i].2.aH,l[i].2.cH⟩)):=by
 have hlen:(l.set i (⟨l[i].1.busy,f,l[i].1.held⟩,⟨a,c,l[i].2.aH,l[i].2.cH⟩)).length=l.length:=List.length_set
 have hoth:∀ k,k≠g->(w.setCells g (i*16+1) (f.enc a c)).heap[k]?=w.heap[k]?:=fun k hk=>Ae hk _ _ _
 have hm:∀ {p},p∈l.set i (⟨l[i].1.busy,f,l[i].1.held⟩,⟨a,c,l[i].2.aH,l[i].2.cH⟩)->(p.1.f=f/\p.2.aK=a/\p.2.cK=c/\p.1.held=l[i].1.held/\p.2.aH=l[i].2.aH/\p.2.cH=l[i].2.cH)\/p∈l:=fun hp=>(Kw hi hp).imp (fun h=>by subst h;exact⟨rfl,rfl,rfl,rfl,rfl,rfl⟩) id
 have hH:∀ {p},p∈l.set i (⟨l[i].1.busy,f,l[i].1.held⟩,⟨a,c,l[i].2.aH,l[i].2.cH⟩)->∃ q∈l,p.1.held=q.1.held/\p.2.aH=q.2.aH/\p.2.cH=q.2.cH:=fun hp=>by
  rcases hm hp with ⟨-,-,-,h1,h2,h3⟩|h
  ·exact⟨l[i],List.getElem_mem hi,h1,h2,h3⟩
  ·exact⟨_,h,rfl,rfl,rfl⟩
 refine⟨?_,by rw[hlen];exact T.few,fun p hp=>?_,fun p hp=>?_,fun j k hj hk' hne x y hx hy=>?_,fun p hp=>?_,fun p hp x hx=>?_,fun p hp hn x hx=>?_,fun p hp hn q hq x y hx hy=>?_⟩
 ·rw[hlen,<- We hi (o:=1) (f.enc a c) (⟨l[i].1.busy,f,l[i].1.held⟩,⟨a,c,l[i].2.aH,l[i].2.cH⟩) (by rw[Fr.Io];decide) rfl]
  exact Kv _ _ _ _ T.row (by rw[Lc,Fr.Io];omega)
 ·obtain⟨q,hq,e,-⟩:=hH hp
  rw[e];exact T.hm q hq
 ·obtain⟨q,hq,e1,e2,e3⟩:=hH hp
  rw[e1,e2,e3]
  refine Qr (T.held q hq) (fun h=>?_) _
  cases ha:q.2.aH with
  | none=>rw[ha] at h;cases h
  | some ad=>rw[ha] at h;injection h with h;exact T.hg hq ha h
 ·have e:∀ {j} (hj:j<(l.set i ((⟨l[i].1.busy,f,l[i].1.held⟩,⟨a,c,l[i].2.aH,l[i].2.cH⟩):Tk × TkV)).length),∃ h:j<l.length,(l.set i ((⟨l[i].1.busy,f,l[i].1.held⟩,⟨a,c,l[i].2.aH,l[i].2.cH⟩):Tk × TkV))[j].2.aH=l[j].2.aH:=fun {j} hj=>by
   rcases J4 hi hj with ⟨rfl,e⟩|⟨_,h,e⟩
   ·exact⟨hi,by rw[e]⟩
   ·exact⟨h,by rw[e]⟩
  obtain⟨h1,e1⟩:=e hj
  obtain⟨h2,e2⟩:=e hk'
  rw[e1] at hx;rw[e2] at hy
  exact T.dj j k h1 h2 hne x y hx hy
 ·rcases hm hp with ⟨h1,h2,h3,-⟩|h
  ·rw[h1,h2,h3];exact Eu hk fun hn ad e _=>hoth _ (hg hn ad e)
  ·exact Eu (T.keys p h) fun hn ad e _=>hoth _ (T.kg p h hn ad e)
 ·rcases hm hp with ⟨-,h2,-⟩|h
  ·rw[h2] at hx;exact hlo x hx
  ·exact T.klo p h x hx
 ·rcases hm hp with ⟨h1,h2,-⟩|h
  ·rw[h1] at hn;rw[h2] at hx;exact hg hn x hx
  ·exact T.kg p h hn x hx
 ·obtain⟨q',hq',-,e2,-⟩:=hH hq
  rw[e2] at hy
  rcases hm hp with ⟨h1,h2,-⟩|h
  ·rw[h1] at hn;rw[h2] at hx;exact hh hn q' hq' x y hx hy
  ·exact T.kh p h hn q' hq' x y hx hy
theorem Ce.setB{w:World}{lo g cT:Nat}{l:List (Tk × TkV)}(T:Ce w lo g cT l){i:Nat}(hi:i<l.length)(b:Bool) :
  Ce (w.setCell ⟨g,i*16,none⟩ (.bool b)) lo g cT (l.set i (⟨b,l[i].1.f,l[i].1.held⟩,l[i].2)):=by
 have hlen:(l.set i (⟨b,l[i].1.f,l[i].1.held⟩,l[i].2)).length=l.length:=List.length_set
 have hoth:∀ k,k≠g->(w.setCell ⟨g,i*16,none⟩ (.bool b)).heap[k]?=w.heap[k]?:=fun k hk=>Below.heap_setCell _ _ _ _ (by dsimp only;exact hk)
 have hH:∀ {p},p∈l.set i (⟨b,l[i].1.f,l[i].1.held⟩,l[i].2)->∃ q∈l,p.1.f=q.1.f/\p.1.held=q.1.held/\p.2=q.2:=fun hp=>by
  rcases Kw hi hp with rfl|h
  ·exact⟨l[i],List.getElem_mem hi,rfl,rfl,rfl⟩
  ·exact⟨_,h,rfl,rfl,rfl⟩
 refine⟨?_,by rw[hlen];exact T.few,fun p hp=>?_,fun p hp=>?_,fun j k hj hk' hne x y hx hy=>?_,fun p hp=>?_,fun p hp x hx=>?_,fun p hp hn x hx=>?_,fun p hp hn q hq x y hx hy=>?_⟩
 ·rw[hlen,<- Rt hi (o:=0) (.bool b) (⟨b,l[i].1.f,l[i].1.held⟩,l[i].2) (by decide) rfl]
  exact(T.row.stored (i*16) _).1
 ·obtain⟨q,hq,-,e,-⟩:=hH hp
  rw[e];exact T.hm q hq
 ·obtain⟨q,hq,-,e1,e2⟩:=hH hp
  rw[e1,e2]
  refine ownsRow_setCell_other (T.held q hq) (fun h=>?_) _
  cases ha:q.2.aH with
  | none=>rw[ha] at h;cases h
  | some ad=>rw[ha] at h;injection h with h;exact T.hg hq ha h
 ·have e:∀ {j} (hj:j<(l.set i (⟨b,l[i].1.f,l[i].1.held⟩,l[i].2)).length),∃ h:j<l.length,(l.set i (⟨b,l[i].1.f,l[i].1.held⟩,l[i].2))[j].2.aH=l[j].2.aH:=fun {j} hj=>by
   rcases J4 hi hj with ⟨rfl,e⟩|⟨_,h,e⟩
   ·exact⟨hi,by rw[e]⟩
   ·exact⟨h,by rw[e]⟩
  obtain⟨h1,e1⟩:=e hj
  obtain⟨h2,e2⟩:=e hk'
  rw[e1] at hx;rw[e2] at hy
  exact T.dj j k h1 h2 hne x y hx hy
 ·obtain⟨q,hq,e1,-,e2⟩:=hH hp
  rw[e1,e2];exact Eu (T.keys q hq) fun hn ad e _=>hoth _ (T.kg q hq hn ad e)
 ·obtain⟨q,hq,-,-,e2⟩:=hH hp
  rw[e2] at hx;exact T.klo q hq x hx
 ·obtain⟨q,hq,e1,-,e2⟩:=hH hp
  rw[e1] at hn
  rw[e2] at hx;exact T.kg q hq hn x hx
 ·obtain⟨q1,hq1,e0,-,e1⟩:=hH hp
  obtain⟨q2,hq2,-,-,e2⟩:=hH hq
  rw[e0] at hn
  rw[e1] at hx;rw[e2] at hy
  exact T.kh q1 hq1 hn q2 hq2 x y hx hy
theorem Ce.setH{w w1:World}{lo g cT:Nat}{l:List (Tk × TkV)}(T:Ce w lo g cT l){i:Nat}(hi:i<l.length)(h':List Int)(a':Option Addr)(c':Nat)(hm':h'.length<=1000)
  (ho:w1.ownsRow lo 3 1 (Y a' h'.length c') h'.length (encI h')) (hs:∀ k,k<w.heap.size->(∀ ad,l[i].2.aH=some ad->k≠ad.block)->w1.heap[k]?=w.heap[k]?)
  (hloc:∀ x,a'=some x->(∃ ad,l[i].2.aH=some ad/\x.block=ad.block)\/w.heap.size<=x.block) :
  Ce (w1.setCell ⟨g,i*16+15,none⟩ (Y a' h'.length c')) lo g cT (l.set i (⟨l[i].1.busy,l[i].1.f,h'⟩,⟨l[i].2.aK,l[i].2.cK,a',c'⟩)):=by
 have hpi:=List.getElem_mem hi
 have hlen:(l.set i (⟨l[i].1.busy,l[i].1.f,h'⟩,⟨l[i].2.aK,l[i].2.cK,a',c'⟩)).length=l.length:=List.length_set
 have hgz:=T.glo
 have hg1:w1.heap[g]?=w.heap[g]?:=hs g hgz.2 (fun ad e h=>T.hg hpi e h.symm)
 have row1:w1.ownsRow lo 49 16 (Y (some ⟨g,0,none⟩) l.length cT) l.length (Ht l):=Dx T.row fun k hk=>by injection hk with hk;subst hk;exact hg1
 have hoth:∀ k,k≠g->(w1.setCell ⟨g,i*16+15,none⟩ (Y a' h'.length c')).heap[k]?=w1.heap[k]?:=fun k hk=>Below.heap_setCell _ _ _ _ (by dsimp only;exact hk)
 have hng:∀ x,a'=some x->x.block≠g:=fun x e h=>by
  rcases hloc x e with ⟨ad,e',h'⟩|h'
  ·exact T.hg hpi e' (h'.symm.trans h)
  ·omega
 have hK:∀ {p},p∈l.set i (⟨l[i].1.busy,l[i].1.f,h'⟩,⟨l[i].2.aK,l[i].2.cK,a',c'⟩)->∃ q∈l,p.1.f=q.1.f/\p.2.aK=q.2.aK/\p.2.cK=q.2.cK:=fun hp=>by
  rcases Kw hi hp with rfl|h
  ·exact⟨l[i],hpi,rfl,rfl,rfl⟩
  ·exact⟨_,h,rfl,rfl,rfl⟩
 refine⟨?_,by rw[hlen];exact T.few,fun p hp=>?_,fun p hp=>?_,fun j k hj hk' hne x y hx hy=>?_,fun p hp=>?_,fun p hp x hx=>?_,fun p hp hn x hx=>?_,fun p hp hn q hq x y hx hy=>?_⟩
 ·rw[hlen,<- Rt hi (o:=15) (Y a' h'.length c') (⟨l[i].1.busy,l[i].1.f,h'⟩,⟨l[i].2.aK,l[i].2.cK,a',c'⟩) (by decide) rfl]
  exact(row1.stored (i*16+15) _).1
 ·rcases Kw hi hp with rfl|h
  ·exact hm'
  ·exact T.hm p h
 ·obtain⟨j,hj,rfl⟩:=List.getElem_of_mem hp
  rcases J4 hi hj with ⟨-,e⟩|⟨hne,h,e⟩
  ·rw[e]
   refine ownsRow_setCell_other ho (fun h=>?_) _
   cases a' with
   | none=>cases h
   | some x=>injection h with h;exact hng x rfl h
  ·rw[e]
   have hh:=T.held _ (List.getElem_mem h)
   cases ha:l[j].2.aH with
   | none =>
    rw[ha] at hh
    exact Dx hh fun k hk=>by cases hk
   | some ad =>
    rw[ha] at hh
    refine ownsRow_setCell_other (Dx hh fun k hk=>?_) (fun h'=>?_) _
    ·injection hk with hk
     subst hk
     exact hs _ (T.hlo (List.getElem_mem h) ha).2 (fun ad' e'=>T.dj j i h hi hne ad ad' ha e')
    ·injection h' with h'
     exact T.hg (List.getElem_mem h) ha h'
 ·have hold:∀ {j} (h:j<l.length),j≠i->∀ x y,a'=some x->l[j].2.aH=some y->x.block≠y.block:=fun {j} h hne x y hx hy=>by
   rcases hloc x hx with ⟨ad,e,e'⟩|h'
   ·rw[e'];exact(T.dj j i h hi hne y ad hy e).symm
   ·have:=(T.hlo (List.getElem_mem h) hy).2
    omega
  rcases J4 hi hj with ⟨rfl,e⟩|⟨n1,h1,e⟩
  ·rw[e] at hx
   rcases J4 hi hk' with ⟨rfl,e'⟩|⟨n2,h2,e'⟩
   ·exact absurd rfl hne
   ·rw[e'] at hy
    exact hold h2 n2 x y hx hy
  ·rw[e] at hx
   rcases J4 hi hk' with ⟨rfl,e'⟩|⟨n2,h2,e'⟩
   ·rw[e'] at hy
    exact(hold h1 n1 y x hy hx).symm
   ·rw[e'] at hy
    exact T.dj j k h1 h2 hne x y hx hy
 ·obtain⟨q,hq,e1,e2,e3⟩:=hK hp
  rw[e1,e2,e3]
  refine Eu (w:=w) (T.keys q hq) fun hn ad e hz=>?_
  rw[hoth _ (T.kg q hq hn ad e)]
  exact hs _ hz (fun ad' e'=>T.kh q hq hn _ hpi ad ad' e e')
 ·obtain⟨q,hq,-,e2,-⟩:=hK hp
  rw[e2] at hx;exact T.klo q hq x hx
 ·obtain⟨q,hq,e1,e2,-⟩:=hK hp
  rw[e1] at hn
  rw[e2] at hx;exact T.kg q hq hn x hx
 ·obtain⟨q1,hq1,e0,e1,-⟩:=hK hp
  rw[e0] at hn
  rw[e1] at hx
  rcases Kw hi hq with rfl|h
  ·rcases hloc y hy with ⟨ad,e,e'⟩|h'
   ·rw[e'];exact T.kh q1 hq1 hn _ hpi x ad hx e
   ·have:=a4v (T.keys q1 hq1) hn hx
    omega
  ·exact T.kh q1 hq1 hn q h x y hx hy
end
section
open Go.ChangeShapes Go.WideShapes Go.ChangeAt Go.RowKit Go.Joins
theorem J6.src{w:World}{ao:Option Addr}{cap:Nat}{l:List (Tk × TkV)}(r:J6 w ao cap l):∀ ad,ao=some ad->∀ j u,(Ht l)[j]?=some u->w.cell? (ad.add j)=some u:=by
 rintro ad rfl j u hj
 have hlt:j<l.length*16:=by
  have:=(List.getElem?_eq_some_iff.1 hj).1
  rwa [Lc] at this
 rcases r.at_ with h0|⟨b,o,e,hc⟩
 ·omega
 injection e with e
 subst e
 have hi:j / 16<l.length:=by omega
 have e1:j=j / 16*16+j % 16:=by omega
 rw[Addr.add_mid,show o+j=o+j / 16*16+j % 16 by omega,hc _ hi _ (by omega),<- Ji hi (by omega),<- e1]
 exact hj
theorem b0r(l:List (Tk × TkV)):∀ v∈Ht l,v.oneCell'=true:=by
 intro v hv
 obtain⟨p,-,h⟩:=List.mem_flatMap.1 hv
 simp only[Tk.enc,Fr.enc,List.cons_append,List.nil_append,List.mem_cons,List.not_mem_nil,or_false] at h
 rcases h with rfl|rfl|rfl|rfl|rfl|rfl|rfl|rfl|rfl|rfl|rfl|rfl|rfl|rfl|rfl|rfl <;> rfl
theorem iT:(Tryz.prog.info? 49).map (fun i=>(i.zero,i.size,i.bytes))=some (some (.agg #[.bool false,O J 0,O J 0,O J 0,O J 0,O J 0,O J 0,O J 0,O J 0,O J 0,O J 0,O J 0,Y none 0 0,.bool false,O J 0,Y none 0 0]),16,160):=by kernel_rfl
set_option maxHeartbeats 1600000 in
theorem a3g(ad:Addr)(cap:Nat)(l:List (Tk × TkV))(w:World)(r:J6 w (some ad) cap l) :
  Calls Tryz.prog 102 #[Y (some ad) l.length cap] w fun e w'=>e=.returned (Y (some ⟨w.heap.size,0,none⟩) l.length l.length)/\w'.ownsRow w.heap.size 49 16 (Y (some ⟨w.heap.size,0,none⟩) l.length l.length) l.length (Ht l)/\Below w.heap.size w w':=by
 obtain⟨i0,hi,hz0,hz1,hz2⟩:=info_parts iT
 have m1:=r.max
 have m2:=r.le
 have HS:Hid _:=r.src
 have HN:Hid _:=r.nil
 clear r
 have q27:∀ (w:World) (a:Option Addr) (n c:Nat),(binOp .eql 26 (Y a n c) (Y none 0 0)).run Tryz.prog w=.ok (.bool a.isNone) w:=fun w a n c=>Lib.run_eql_slice_nil w _ _ a n c 0 0 Tryz.underlying26
 go_enter Tryz.func102,Tryz.ntmps102
 go_wp2_with (first
  | (at_make;refine wpList_make_own _ rfl _ _ 26 rfl w.heap.size 49 i0 (.agg #[.bool false,O J 0,O J 0,O J 0,O J 0,O J 0,O J 0,O J 0,O J 0,O J 0,O J 0,O J 0,Y none 0 0,.bool false,O J 0,Y none 0 0]) 16 Tryz.underlying26 hi hz0 hz1 .i64 .i64 _ l.length rfl rfl rfl (by rw[hz2];omega) (by unfold maxLen;omega) (Nat.le_refl _) ?_;intro w1 hown hgrow)
  | (at_builtin;refine wpList_append_fits_any _ rfl _ _ 26 rfl w.heap.size 49 i0 16 Tryz.underlying26 hi hz1 w.heap.size 0 l.length _ rfl hown (some ad) l.length cap (Ht l) rfl (Lc l) (fun h=>by have:=HN.out h;omega) (fun ad h j u hj=>hgrow.cell (HS.out ad h j u hj) (by intro hh;cases hh)) (b0r l) (by omega) ?_;intro w2 hown2 hgrow2))
 go_ret
 simp only[Nat.zero_add,List.nil_append] at hown2
 refine⟨by simp,hown2,?_⟩
 have:=((Below.refl w.heap.size w).grown hgrow (Nat.le_refl _) (fun k h=>by cases h))
 exact this.grown hgrow2 hgrow.size (fun k h=>by cases h;exact Nat.le_refl _)
structure Rf(w:World)(lo g cT:Nat)(l:List (Tk × TkV))(k:Nat):Prop where
 row:w.ownsRow lo 49 16 (Y (some ⟨g,0,none⟩) l.length cT) l.length (Ht l)
 held:∀ j (h:j<l.length),j<k->w.ownsRow lo 3 1 (Y l[j].2.aH l[j].1.held.length l[j].2.cH) l[j].1.held.length (encI l[j].1.held)
 keys:∀ j (h:j<l.length),j<k->Gg w lo l[j].2.aK l[j].2.cK l[j].1.f.keys
 dj:∀ i j (hi:i<l.length) (hj:j<l.length),i<k->j<k->i≠j->∀ a b,l[i].2.aH=some a->l[j].2.aH=some b->a.block≠b.block
theorem Rf.step{w w':World}{lo g cT k:Nat}{l:List (Tk × TkV)}(P:Rf w lo g cT l k)(hk:k<l.length)(aK' aH':Option Addr)(cK' cH':Nat)(hlo:lo<=w.heap.size)
  (row:w'.ownsRow lo 49 16 (Y (some ⟨g,0,none⟩) l.length cT) l.length (Ht (l.set k (l[k].1,⟨aK',cK',aH',cH'⟩))))
  (hh:w'.ownsRow w.heap.size 3 1 (Y aH' l[k].1.held.length cH') l[k].1.held.length (encI l[k].1.held)) (hK:Gg w' w.heap.size aK' cK' l[k].1.f.keys)
  (hs:∀ j,j<w.heap.size->j≠g->w'.heap[j]?=w.heap[j]?):Rf w' lo g cT (l.set k (l[k].1,⟨aK',cK',aH',cH'⟩)) (k+1):=by
 have hlen:(l.set k (l[k].1,(⟨aK',cK',aH',cH'⟩:TkV))).length=l.length:=List.length_set
 have hgb:w.heap[g]? ≠ none/\∃ cur,w.heap[g]?=some (.cells cur 49 (0,0)):=by
  obtain⟨cur,hc⟩:=a3l P.row rfl
  exact⟨by rw[hc];simp,cur,hc⟩
 obtain⟨-,cur,hcur⟩:=hgb
 refine⟨by rw[hlen];exact row,fun j hj hjk=>?_,fun j hj hjk=>?_,fun i j hi hj hik hjk hne a b ha hb=>?_⟩
 ·rcases J4 hk hj with ⟨rfl,e⟩|⟨hne,h,e⟩
  ·rw[e];exact ownsRow_le hh hlo
  ·rw[e]
   have h1:=P.held j h (by omega)
   exact Dx h1 fun m hm=>hs m (h1.lt m hm).2 (fun he=>own_ne h1 hcur (by decide) (by rw[hm,he]))
 ·rcases J4 hk hj with ⟨rfl,e⟩|⟨hne,h,e⟩
  ·rw[e];exact hK.le hlo
  ·rw[e]
   have h1:=P.keys j h (by omega)
   refine h1.same fun ad ha=>hs _ (h1.lt ad ha).2 (fun he=>own_ne h1.own hcur (by decide) ?_)
   rw[ha];exact congrArg some he
 ·have hnew:∀ {j} (h:j<l.length),j<k->∀ x y,aH'=some x->l[j].2.aH=some y->x.block≠y.block:=fun {j} h hjk x y hx hy=>by
   have h1:=P.held j h hjk
   rw[hy] at h1
   rw[hx] at hh
   have:=(h1.lt y.block rfl).2
   have:=(hh.lt x.block rfl).1
   omega
  rcases J4 hk hi with ⟨rfl,e⟩|⟨n1,h1,e⟩
  ·rw[e] at ha
   rcases J4 hk hj with ⟨rfl,e'⟩|⟨n2,h2,e'⟩
   ·exact absurd rfl hne
   ·rw[e'] at hb;exact hnew h2 (by omega) a b ha hb
  ·rw[e] at ha
   rcases J4 hk hj with ⟨rfl,e'⟩|⟨n2,h2,e'⟩
   ·rw[e'] at hb;exact(hnew h1 (by omega) b a hb ha).symm
   ·rw[e'] at hb;exact P.dj i j h1 h2 (by omega) (by omega) hne a b ha hb
theorem Rf.own{w:World}{lo g cT k:Nat}{l:List (Tk × TkV)}(P:Rf w lo g cT l k)(hk:l.length<=k)(few:l.length<=5)(hm:∀ p∈l,p.1.held.length<=1000)(km:∀ p∈l,p.1.f.keys.length*16<=140737488351232):Ce w lo g cT l:=by
 have hH:∀ p∈l,w.ownsRow lo 3 1 (Y p.2.aH p.1.held.length p.2.cH) p.1.held.length (encI p.1.held):=fun p hp=>by
  obtain⟨j,hj,rfl⟩:=List.getElem_of_mem hp
  exact P.held j hj (by omega)
 have hK:∀ p∈l,Gg w lo p.2.aK p.2.cK p.1.f.keys:=fun p hp=>by
  obtain⟨j,hj,rfl⟩:=List.getElem_of_mem hp
  exact P.keys j hj (by omega)
 refine⟨P.row,few,hm,hH,fun i j hi hj hne=>P.dj i j hi hj (by omega) (by omega) hne,fun p hp=>Ag.own (hK p hp).own (km p hp),fun p hp a ha=>((hK p hp).lt a ha).1,fun p hp _ a ha e=>?_,fun p hp _ q hq a b ha hb e=>?_⟩
 ·have h1:=(hK p hp).own
  rw[ha] at h1
  exact I5 h1 P.row (by decide) a.block rfl (by rw[e];rfl)
 ·have h1:=(hK p hp).own
  have h2:=hH q hq
  rw[ha] at h1;rw[hb] at h2
  exact I5 h1 h2 (by decide) a.block rfl (by rw[e];rfl)
theorem b6l{l:List (Tk × TkV)}{k:Nat}(hk:k<l.length)(v:TkV):(l.set k (l[k].1,v)).map (·.1)=l.map (·.1):=by
 apply List.ext_getElem?
 intro j
 by_cases e:j=k
 ·subst e;simp[hk]
 ·rw[List.map_set,List.getElem?_set_ne (fun h=>e h.symm)]
end
section
open Go.ChangeShapes Go.WideShapes Go.ChangeAt Go.RowKit Go.Joins
@[reducible] def Xw (aT:Option Addr) (n cT:Nat):Ex:=⟨[Y aT n cT],28,by decide⟩
def LoM(n:Nat)(aS aH aF aL:Option Addr):Prop:=∀ ad,aS=some ad\/aH=some ad\/aF=some ad\/aL=some ad->ad.block<n
theorem Rw.lom{w:World}{lo:Nat}{aS aH aF aL:Option Addr}{cS cH cF cL:Nat}{M:Mm}(r:Rw w lo aS aH aF aL cS cH cF cL M):LoM w.heap.size aS aH aF aL:=by
 rintro ad (rfl|rfl|rfl|rfl)
 ·exact(r.s.lt ad.block rfl).2
 ·exact(r.h.lt ad.block rfl).2
 ·exact(r.f.lt ad.block rfl).2
 ·exact(r.l.lt ad.block rfl).2
theorem Rw.a3u{w:World}{lo B:Nat}{aS aH aF aL:Option Addr}{cS cH cF cL:Nat}{M:Mm}{cs:Array Value}(r:Rw w lo aS aH aF aL cS cH cF cL M)(hB:w.heap[B]?=some (.cells cs 28 (0,0)))(j:Nat)(v:Value):Rw (w.setCell ⟨B,j,none⟩ v) lo aS aH aF aL cS cH cF cL M :=
 ⟨Fj r.s hB (by decide) _,Fj r.h hB (by decide) _,Fj r.f hB (by decide) _,Fj r.l hB (by decide) _,r.hf,r.hl,r.fl,by rw[World.size_setCell];exact r.lz⟩
theorem Rw.setRow{w:World}{lo g:Nat}{aS aH aF aL:Option Addr}{cS cH cF cL:Nat}{M:Mm}(r:Rw w lo aS aH aF aL cS cH cF cL M)(hg:∀ ad,aS=some ad\/aH=some ad\/aF=some ad\/aL=some ad->ad.block≠g)(j:Nat)(v:Value):Rw (w.setCell ⟨g,j,none⟩ v) lo aS aH aF aL cS cH cF cL M:=by
 have q:∀ {a:Option Addr} {n c:Nat},(∀ ad,a=some ad->ad.block≠g)->(Value.slice a n c).ownBlock≠some g:=fun {a n c} h e=>by
  cases a with
  | none=>cases e
  | some ad=>injection e with e;exact h ad rfl e
 exact⟨ownsRow_setCell_other r.s (q fun ad h=>hg ad (.inl h)) _,ownsRow_setCell_other r.h (q fun ad h=>hg ad (.inr (.inl h))) _,ownsRow_setCell_other r.f (q fun ad h=>hg ad (.inr (.inr (.inl h)))) _,ownsRow_setCell_other r.l (q fun ad h=>hg ad (.inr (.inr (.inr h)))) _,r.hf,r.hl,r.fl,by rw[World.size_setCell];exact r.lz⟩
theorem a8k(w:World)(B:Nat)(v0 v1 v2 v3 v4:Value):w.setCells B 0 [v0,v1,v2,v3,v4]=Jt w B v0 v1 v2 v3 v4:=by
 simp only[World.setCells,Jt,Nat.zero_add,Nat.reduceAdd]
theorem ws_M{ops:Array Oper}{rest:List Oper}{op:Oper}{a:Act}{w:World}{Q:Exit->Act->World->Prop}{aS aH aF aL:Option Addr}{nS nH nF nL cS cH cF cL:Nat}{now:Int}{B:Nat}(hgd:op.guard=none)(x y:Operand)(ho:op.op=.store 25 x y)(hx:a.eval x=.pointer (some ⟨B,0,none⟩))(hy:a.eval y=.agg #[Y aS nS cS,Y aH nH cH,Y aF nF cF,Y aL nL cL,O J now])(h:w.there B 0 5)
  (K:wpList Tryz.prog ops Q rest (a.put op.dst undef) (Jt w B (Y aS nS cS) (Y aH nH cH) (Y aF nF cF) (Y aL nL cL) (O J now))):wpList Tryz.prog ops Q (op :: rest) a w :=
 ws_5 hgd x y ho hx hy h (by kernel_rfl) (by rw[a8k];exact K)
theorem a3t{w:World}{g:Nat}{u0 u1 u2 u3 u4 u5:Value}{t:TypeId}(h:w.heap[g]?=some (.cells #[u0,u1,u2,u3,u4,u5] t (0,0)))(v0 v1 v2 v3 v4 v5:Value):(w.setCells g 0 [v0,v1,v2,v3,v4,v5]).heap[g]?=some (.cells #[v0,v1,v2,v3,v4,v5] t (0,0)):=by
 have:=block_setCell (i:=5) (block_setCell (i:=4) (block_setCell (i:=3) (block_setCell (i:=2) (block_setCell (i:=1) (block_setCell (i:=0) h v0) v1) v2) v3) v4) v5
 simp only[World.setCells,Nat.zero_add,Nat.reduceAdd]
 rw[this]
 simp
theorem Bq{w0 w:World}{n g o:Nat}{vs:List Value}(h:Below n w0 w)(hg:n<=g):Below n w0 (w.setCells g o vs) :=
 h.trans ⟨(Au vs o w).1,(Au vs o w).2.1,(Au vs o w).2.2,by rw[setCells_size];exact Nat.le_refl _,fun k hk=>Ae (by omega) vs o w⟩
def b3m(w:World)(M:Mm)(ts:List Tk)(e:Ending)(w':World):Prop :=
 ∃ gS gH gF gL kS kH kF kL g c l' lo2,e=.returned (.agg #[Y gS M.slots.length kS,Y gH M.heads.length kH,Y gF M.free.length kF,Y gL M.locks.length kL,O J M.now,Y (some ⟨g,0,none⟩) (List.length l') c]) /\
  Rw w' w.heap.size gS gH gF gL kS kH kF kL M/\LoM lo2 gS gH gF gL/\Ce w' lo2 g c l'/\(∀ p∈l',∀ a,p.2.aK=some a->a.block<w'.heap.size/\a.block≠g/\∀ q∈l',∀ b,q.2.aH=some b->a.block≠b.block)/\l'.map (·.1)=ts/\w.heap.size<=lo2/\Below w.heap.size w w'
set_option maxHeartbeats 1000000 in
theorem a5c(M:Mm)(l:List (Tk × TkV))(aS aH aF aL:Option Addr)(cS cH cF cL:Nat)(aT:Option Addr)(cT:Nat)(w:World)(A:At w aS aH aF aL cS cH cF cL M)(r:J6 w aT cT l)(n1:1<=l.length)(n5:l.length<=5)(hm:∀ p∈l,p.1.held.length<=1000) :
  Calls Tryz.prog 57 #[.agg #[Y aS M.slots.length cS,Y aH M.heads.length cH,Y aF M.free.length cF,Y aL M.locks.length cL,O J M.now,Y aT l.length cT]] w (b3m w M (l.map (·.1))):=by
 have m1:=A.s.max;have m2:=A.h.max;have m3:=r.max
 obtain⟨ox,hox⟩:∃ o:Obj,o=.cells #[Y aS M.slots.length cS,Y aH M.heads.length cH,Y aF M.free.length cF,Y aL M.locks.length cL,O J M.now,Y aT l.length cT] 28:=⟨_,rfl⟩
 obtain⟨oy,hoy⟩:∃ o:Obj,o=.cells #[Y none 0 0,Y none 0 0,Y none 0 0,Y none 0 0,O J 0,Y none 0 0] 28:=⟨_,rfl⟩
 have b0:Below w.heap.size w ((w.alloc ox).alloc oy):=below_alloc2 w ox oy
 have HX0:Hid (((w.alloc ox).alloc oy).heap[w.heap.size]?=some ox):=by show _=_;rw[Below.heap_alloc _ _ _ (by simp),heap_alloc_new]
 have HY0:Hid (((w.alloc ox).alloc oy).heap[w.heap.size+1]?=some oy):=by
  have:=heap_alloc_new (w.alloc ox) oy
  rwa [show (w.alloc ox).heap.size=w.heap.size+1 by simp] at this
 have HA0:Hid (At ((w.alloc ox).alloc oy) aS aH aF aL cS cH cF cL M):=A.below b0
 have HR:Hid (J6 w aT cT l):=r
 have z0:((w.alloc ox).alloc oy).heap.size=w.heap.size+2:=by simp
 have HHm:Hid (∀ p∈l,p.1.held.length<=1000):=hm
 have HKm:Hid (∀ p∈l,p.1.f.keys.length*16<=140737488351232):=fun p hp=>(r.keys p hp).max
 clear A r hm
 go_enter Tryz.func57,Tryz.ntmps57
 go_wp2_with fail
 rw[<- hox,<- hoy]
 generalize (w.alloc ox).alloc oy=W0 at *
 refine(b0e M aS aH aF aL cS cH cF cL W0 HA0.out).mono ?_
 rintro e w1 ⟨gS,gH,gF,gL,kS,kH,kF,kL,rfl,c1,hb1⟩
 have HX1:Hid (w1.heap[w.heap.size]?=some ox):=(hb1.block _ (lt_of_block HX0.out)).trans HX0.out
 have HY1:Hid (w1.heap[w.heap.size+1]?=some oy):=(hb1.block _ (lt_of_block HY0.out)).trans HY0.out
 have b1:Below w.heap.size w w1:=b0.trans (hb1.mono b0.size)
 have z1:=hb1.size
 have HC1:Hid (Rw w1 W0.heap.size gS gH gF gL kS kH kF kL M):=c1
 clear HX0 HY0 HA0 hb1 b0 c1
 subst hox hoy
 have HTh:Hid (w1.there w.heap.size 0 5):=Dn HX1.out (by simp)
 have HBx:Hid ((Jt w1 w.heap.size (Y gS M.slots.length kS) (Y gH M.heads.length kH) (Y gF M.free.length kF) (Y gL M.locks.length kL) (O J M.now)).heap[w.heap.size]?=some (.cells #[Y gS M.slots.length kS,Y gH M.heads.length kH,Y gF M.free.length kF,Y gL M.locks.length kL,O J M.now,Y aT l.length cT] 28 (0,0))):=a3s HX1.out _ _ _ _ _
 have HYx:Hid ((Jt w1 w.heap.size (Y gS M.slots.length kS) (Y gH M.heads.length kH) (Y gF M.free.length kF) (Y gL M.locks.length kL) (O J M.now)).heap[w.heap.size+1]?=_):=(Xk (by omega)).trans HY1.out
 have HCx:Hid (Rw (Jt w1 w.heap.size (Y gS M.slots.length kS) (Y gH M.heads.length kH) (Y gF M.free.length kF) (Y gL M.locks.length kL) (O J M.now)) W0.heap.size gS gH gF gL kS kH kF kL M):=HC1.out.Jt (Xb:=Xw aT l.length cT) HX1.out _ _ _ _ _
 have bx:Below w.heap.size w (Jt w1 w.heap.size (Y gS M.slots.length kS) (Y gH M.heads.length kH) (Y gF M.free.length kF) (Y gL M.locks.length kL) (O J M.now)):=b1.trans (Qw w1 w.heap.size w.heap.size _ _ _ _ _ (Nat.le_refl _))
 have zx:W0.heap.size<=(Jt w1 w.heap.size (Y gS M.slots.length kS) (Y gH M.heads.length kH) (Y gF M.free.length kF) (Y gL M.locks.length kL) (O J M.now)).heap.size:=by rw[Z5];exact z1
 have HTx:Hid (J6 (Jt w1 w.heap.size (Y gS M.slots.length kS) (Y gH M.heads.length kH) (Y gF M.free.length kF) (Y gL M.locks.length kL) (O J M.now)) aT cT l):=HR.out.below bx
 obtain⟨q0,q1,q2,q3,q4,q5,qs⟩:=Ew HBx.out
 clear HX1 HY1 HC1 b1
 go_wp2_with (refine ws_M rfl _ _ rfl rfl rfl HTh.out ?_;generalize Jt w1 w.heap.size (Y gS M.slots.length kS) (Y gH M.heads.length kH) (Y gF M.free.length kF) (Y gL M.locks.length kL) (O J M.now)=W1 at *)
 obtain⟨ad0,rfl⟩:∃ ad,aT=some ad:=by
  obtain⟨b,o,e⟩:=HTx.out.addr (by omega)
  exact⟨_,e⟩
 refine(a3g ad0 cT l W1 HTx.out).mono ?_
 rintro e w2 ⟨rfl,hrow,hb2⟩
 obtain⟨g,hg⟩:∃ g,g=W1.heap.size:=⟨_,rfl⟩
 rw[<- hg] at hrow ⊢
 have gW:w.heap.size<g/\w.heap.size+1<g:=by omega
 have HG:Hid (g=W1.heap.size):=hg
 have HBy:Hid (w2.heap[w.heap.size]?=_):=(hb2.block _ (lt_of_block HBx.out)).trans HBx.out
 have HYy:Hid (w2.heap[w.heap.size+1]?=_):=(hb2.block _ (lt_of_block HYx.out)).trans HYx.out
 have HCy:Hid (Rw w2 W0.heap.size gS gH gF gL kS kH kF kL M):=HCx.out.below hb2
 have HLo:Hid (LoM g gS gH gF gL):=by show LoM _ _ _ _ _;rw[hg];exact HCx.out.lom
 have b2:Below w.heap.size w w2:=bx.trans (hb2.mono bx.size)
 have z2:g<w2.heap.size:=(hrow.lt g rfl).2
 have HRow:Hid (w2.ownsRow g 49 16 (Y (some ⟨g,0,none⟩) l.length l.length) l.length (Ht l)):=hrow
 clear hg HBx HYx HCx HTx bx hb2 hrow q0 q1 q2 q3 q4 q5 qs
 obtain⟨q0,q1,q2,q3,q4,q5,qs⟩:=Ew HBy.out
 have f5:w2.frozen? ⟨w.heap.size,5,none⟩=false:=unfrozen_of_block HBy.out _
 have HB3:Hid ((w2.setCell ⟨w.heap.size,5,none⟩ (Y (some ⟨g,0,none⟩) l.length l.length)).heap[w.heap.size]?=some (.cells #[Y gS M.slots.length kS,Y gH M.heads.length kH,Y gF M.free.length kF,Y gL M.locks.length kL,O J M.now,Y (some ⟨g,0,none⟩) l.length l.length] 28 (0,0))):=by
  have:=block_setCell (i:=5) HBy.out (Y (some ⟨g,0,none⟩) l.length l.length)
  show _=_
  simpa using this
 have HY3:Hid ((w2.setCell ⟨w.heap.size,5,none⟩ (Y (some ⟨g,0,none⟩) l.length l.length)).heap[w.heap.size+1]?=_):=(Below.heap_setCell w2 ⟨w.heap.size,5,none⟩ _ (w.heap.size+1) (by show w.heap.size+1≠w.heap.size;omega)).trans HYy.out
 have HC3:Hid (Rw (w2.setCell ⟨w.heap.size,5,none⟩ (Y (some ⟨g,0,none⟩) l.length l.length)) W0.heap.size gS gH gF gL kS kH kF kL M):=HCy.out.a3u HBy.out _ _
 have HP3:Hid (Rf (w2.setCell ⟨w.heap.size,5,none⟩ (Y (some ⟨g,0,none⟩) l.length l.length)) g g l.length l 0):=⟨Fj HRow.out HBy.out (by decide) _,(fun j h h0=>absurd h0 (Nat.not_lt_zero _)),(fun j h h0=>absurd h0 (Nat.not_lt_zero _)),fun i j hi hj h0=>absurd h0 (Nat.not_lt_zero _)⟩
 have b3:Below w.heap.size w (w2.setCell ⟨w.heap.size,5,none⟩ (Y (some ⟨g,0,none⟩) l.length l.length)):=b2.setCell (Nat.le_refl _) _
 have z3:g<(w2.setCell ⟨w.heap.size,5,none⟩ (Y (some ⟨g,0,none⟩) l.length l.length)).heap.size:=by rw[World.size_setCell];exact z2
 clear HYy HCy HRow b2 z2
 go_wp2_with fail
 generalize w2.setCell ⟨w.heap.size,5,none⟩ (Y (some ⟨g,0,none⟩) l.length l.length)=W3 at *
 have N2:Hid (∀ j (h:j<l.length),Ea w l[j].2.aH l[j].2.cH l[j].1.held/\Ag w l[j].2.aK l[j].2.cK l[j].1.f.keys):=fun j h=>⟨HR.out.held _ (List.getElem_mem h),HR.out.keys _ (List.getElem_mem h)⟩
 clear HR HBy q0 q1 q2 q3 q4 q5 qs f5
 go_loopw [16] (fun i wr=>∃ (k:Nat) (lk:List (Tk × TkV)),k<=l.length/\i=O J k/\Hid (lk.length=l.length/\lk.map (·.1)=l.map (·.1)/\∀ j,k<=j->lk[j]?=l[j]?)/\Hid (Rf wr g g l.length lk k)/\Hid (Rw wr W0.heap.size gS gH gF gL kS kH kF kL M) /\
   Hid (wr.heap[w.heap.size]?=some (.cells #[Y gS M.slots.length kS,Y gH M.heads.length kH,Y gF M.free.length kF,Y gL M.locks.length kL,O J M.now,Y (some ⟨g,0,none⟩) l.length l.length] 28 (0,0))) /\
   Hid (wr.heap[w.heap.size+1]?=some (.cells #[Y none 0 0,Y none 0 0,Y none 0 0,Y none 0 0,O J 0,Y none 0 0] 28 (0,0)))/\Hid (Below w.heap.size w wr)/\Hid (g<wr.heap.size)) (fun i _=>l.length - (intOf i).toNat)
 case atStart=>exact⟨0,l,Nat.zero_le _,rfl,⟨rfl,rfl,fun _ _=>rfl⟩,HP3,HC3,HB3,HY3,b3,z3⟩
 case round =>
  obtain⟨k,lk,hk,rfl,HL,HP,HC,HB,HY,Hb,Hz⟩:=hrel
  clear HP3 HC3 HB3 HY3 b3 z3
  obtain⟨q0,q1,q2,q3,q4,q5,qs⟩:=Ew HB.out
  by_cases hlt:k<l.length
  ·have hltk:k<lk.length:=by rw[HL.out.1];exact hlt
   have HE:Hid (lk[k]'hltk=l[k]):=by
    have:=HL.out.2.2 k (Nat.le_refl _)
    rw[List.getElem?_eq_getElem hltk,List.getElem?_eq_getElem hlt] at this
    injection this
   have hrow:=HP.out.row
   have cHd:wr.cell? ⟨g,k*16+15,none⟩=some (Y l[k].2.aH l[k].1.held.length l[k].2.cH):=by
    rw[hrow.cellAt _ (by rw[HL.out.1];omega),Ji hltk (by decide),HE.out];rfl
   obtain⟨hHi,hKi⟩:=N2.out k hlt
   have HHi:Hid (Ea wr l[k].2.aH l[k].2.cH l[k].1.held):=hHi.below Hb.out
   have HKi:Hid (Ag w l[k].2.aK l[k].2.cK l[k].1.f.keys):=hKi
   clear hHi hKi hrow
   go_wp2_with fail
   refine(Px l[k].2.aH l[k].2.cH l[k].1.held wr HHi.out).mono ?_
   rintro e w4 ⟨a4,c4,rfl,hown4,hb4⟩
   have HB4:Hid (w4.heap[w.heap.size]?=_):=(hb4.block _ (lt_of_block HB.out)).trans HB.out
   have HY4:Hid (w4.heap[w.heap.size+1]?=_):=(hb4.block _ (lt_of_block HY.out)).trans HY.out
   have HC4:Hid (Rw w4 W0.heap.size gS gH gF gL kS kH kF kL M):=HC.out.below hb4
   have b4:Below w.heap.size w w4:=Hb.out.trans (hb4.mono Hb.out.size)
   have row4:=own_below HP.out.row hb4
   have zz4:=hb4.size
   have HS4:Hid (∀ j,j<wr.heap.size->w4.heap[j]?=wr.heap[j]?):=fun j h=>hb4.block j h
   have c15:w4.cell? ⟨g,k*16+15,none⟩=some (Y l[k].2.aH l[k].1.held.length l[k].2.cH):=by
    rw[row4.cellAt _ (by rw[HL.out.1];omega),Ji hltk (by decide),HE.out];rfl
   have f15:w4.frozen? ⟨g,k*16+15,none⟩=false:=row4.frozenAt _
   have row5:(w4.setCell ⟨g,k*16+15,none⟩ (Y a4 l[k].1.held.length c4)).ownsRow g 49 16 (Y (some ⟨g,0,none⟩) lk.length l.length) lk.length (Ht (lk.set k (l[k].1,⟨l[k].2.aK,l[k].2.cK,a4,c4⟩))):=by
    rw[<- Rt hltk (o:=15) (Y a4 l[k].1.held.length c4) (l[k].1,⟨l[k].2.aK,l[k].2.cK,a4,c4⟩) (by decide) (by rw[HE.out];rfl)]
    exact(row4.stored _ _).1
   have hnB:w.heap.size≠g/\w.heap.size+1≠g:=by omega
   have hset:∀ j,j≠g->(w4.setCell ⟨g,k*16+15,none⟩ (Y a4 l[k].1.held.length c4)).heap[j]?=w4.heap[j]?:=fun j h=>Below.heap_setCell _ _ _ _ (by dsimp only;exact h)
   have HB5:Hid ((w4.setCell ⟨g,k*16+15,none⟩ (Y a4 l[k].1.held.length c4)).heap[w.heap.size]?=_):=(hset _ hnB.1).trans HB4.out
   have HY5:Hid ((w4.setCell ⟨g,k*16+15,none⟩ (Y a4 l[k].1.held.length c4)).heap[w.heap.size+1]?=_):=(hset _ hnB.2).trans HY4.out
   have HC5:Hid (Rw (w4.setCell ⟨g,k*16+15,none⟩ (Y a4 l[k].1.held.length c4)) W0.heap.size gS gH gF gL kS kH kF kL M):=HC4.out.setRow (fun ad h e=>by have:=HLo.out ad h;omega) _ _
   have b5:Below w.heap.size w (w4.setCell ⟨g,k*16+15,none⟩ (Y a4 l[k].1.held.length c4)):=b4.setCell (by show w.heap.size<=g;omega) _
   have HO5:Hid ((w4.setCell ⟨g,k*16+15,none⟩ (Y a4 l[k].1.held.length c4)).ownsRow wr.heap.size 3 1 (Y a4 l[k].1.held.length c4) l[k].1.held.length (encI l[k].1.held)):=by
    refine ownsRow_setCell_other hown4 (fun h=>?_) _
    have:=(hown4.lt g h).1
    have:=Hz.out
    omega
   have HS5:Hid (∀ j,j<wr.heap.size->j≠g->(w4.setCell ⟨g,k*16+15,none⟩ (Y a4 l[k].1.held.length c4)).heap[j]?=wr.heap[j]?):=fun j h h'=>(hset j h').trans (HS4.out j h)
   have z5:wr.heap.size<=(w4.setCell ⟨g,k*16+15,none⟩ (Y a4 l[k].1.held.length c4)).heap.size:=by rw[World.size_setCell];exact zz4
   have HR5:Hid _:=row5
   have HK5:Hid (Ag (w4.setCell ⟨g,k*16+15,none⟩ (Y a4 l[k].1.held.length c4)) l[k].2.aK l[k].2.cK l[k].1.f.keys):=HKi.out.below b5
   have hltk':k<(lk.set k (l[k].1,(⟨l[k].2.aK,l[k].2.cK,a4,c4⟩:TkV))).length:=by rw[List.length_set];exact hltk
   have c12:(w4.setCell ⟨g,k*16+15,none⟩ (Y a4 l[k].1.held.length c4)).cell? ⟨g,k*16+12,none⟩=some (Y l[k].2.aK l[k].1.f.keys.length l[k].2.cK):=by
    have h:=row5.cellAt (k*16+12) (by rw[HL.out.1];omega)
    rw[h,Ji hltk' (by decide),List.getElem_set_self];rfl
   have HRo:Hid (Rf wr g g l.length lk k):=HP
   clear HB4 HY4 HC4 b4 row4 zz4 HS4 row5 hset hown4 hb4 HB HY HC Hb HKi HHi q0 q1 q2 q3 q4 q5 qs cHd HP
   go_wp2_with fail
   generalize w4.setCell ⟨g,k*16+15,none⟩ (Y a4 l[k].1.held.length c4)=W5 at *
   refine(Ub l[k].2.aK l[k].2.cK l[k].1.f.keys W5 HK5.out).mono ?_
   rintro e w6 ⟨a6,c6,rfl,hown6,hb6⟩
   have HB6:Hid (w6.heap[w.heap.size]?=_):=(hb6.block _ (lt_of_block HB5.out)).trans HB5.out
   have HY6:Hid (w6.heap[w.heap.size+1]?=_):=(hb6.block _ (lt_of_block HY5.out)).trans HY5.out
   have HC6:Hid (Rw w6 W0.heap.size gS gH gF gL kS kH kF kL M):=HC5.out.below hb6
   have b6:Below w.heap.size w w6:=b5.trans (hb6.mono b5.size)
   have row6:=own_below HR5.out hb6
   have zz6:=hb6.size
   have HS6:Hid (∀ j,j<wr.heap.size->j≠g->w6.heap[j]?=wr.heap[j]?):=fun j h h'=>(hb6.block j (by omega)).trans (HS5.out j h h')
   have HO6:Hid (w6.ownsRow wr.heap.size 3 1 (Y a4 l[k].1.held.length c4) l[k].1.held.length (encI l[k].1.held)):=own_below HO5.out hb6
   have c12':w6.cell? ⟨g,k*16+12,none⟩=some (Y l[k].2.aK l[k].1.f.keys.length l[k].2.cK):=by
    rw[row6.cellAt (k*16+12) (by rw[HL.out.1];omega),Ji hltk' (by decide),List.getElem_set_self];rfl
   have f12:w6.frozen? ⟨g,k*16+12,none⟩=false:=row6.frozenAt _
   have HR7:Hid ((w6.setCell ⟨g,k*16+12,none⟩ (Y a6 l[k].1.f.keys.length c6)).ownsRow g 49 16 (Y (some ⟨g,0,none⟩) lk.length l.length) lk.length (Ht (lk.set k (lk[k].1,⟨a6,c6,a4,c4⟩)))):=by
    have h:=(row6.stored (k*16+12) (Y a6 l[k].1.f.keys.length c6)).1
    rw[Rt hltk' (o:=12) (Y a6 l[k].1.f.keys.length c6) (l[k].1,⟨a6,c6,a4,c4⟩) (by decide) (by rw[List.getElem_set_self];rfl),List.set_set] at h
    rw[HE.out]
    exact h
   have hset:∀ j,j≠g->(w6.setCell ⟨g,k*16+12,none⟩ (Y a6 l[k].1.f.keys.length c6)).heap[j]?=w6.heap[j]?:=fun j h=>Below.heap_setCell _ _ _ _ (by dsimp only;exact h)
   have HB7:Hid ((w6.setCell ⟨g,k*16+12,none⟩ (Y a6 l[k].1.f.keys.length c6)).heap[w.heap.size]?=_):=(hset _ hnB.1).trans HB6.out
   have HY7:Hid ((w6.setCell ⟨g,k*16+12,none⟩ (Y a6 l[k].1.f.keys.length c6)).heap[w.heap.size+1]?=_):=(hset _ hnB.2).trans HY6.out
   have HC7:Hid (Rw (w6.setCell ⟨g,k*16+12,none⟩ (Y a6 l[k].1.f.keys.length c6)) W0.heap.size gS gH gF gL kS kH kF kL M):=HC6.out.setRow (fun ad h e=>by have:=HLo.out ad h;omega) _ _
   have Hb7:Hid (Below w.heap.size w (w6.setCell ⟨g,k*16+12,none⟩ (Y a6 l[k].1.f.keys.length c6))):=b6.setCell (by show w.heap.size<=g;omega) _
   have Hz7:Hid (g<(w6.setCell ⟨g,k*16+12,none⟩ (Y a6 l[k].1.f.keys.length c6)).heap.size):=by
    show _<_
    rw[World.size_setCell];have:=Hz.out;omega
   have HP7:Hid (Rf (w6.setCell ⟨g,k*16+12,none⟩ (Y a6 l[k].1.f.keys.length c6)) g g l.length (lk.set k (lk[k].1,⟨a6,c6,a4,c4⟩)) (k+1)):=by
    refine HRo.out.step hltk a6 a4 c6 c4 (Nat.le_of_lt Hz.out) HR7.out ?_ ?_ (fun j h h'=>(hset j h').trans (HS6.out j h h'))
    ·rw[HE.out]
     refine ownsRow_setCell_other HO6.out (fun h=>?_) _
     have:=(HO6.out.lt g h).1
     have:=Hz.out
     omega
    ·rw[HE.out]
     refine(hown6.same fun ad e=>hset _ ?_).le z5
     have:=(hown6.lt ad e).1
     have:=Hz.out
     omega
   have HL7:Hid ((lk.set k (lk[k].1,(⟨a6,c6,a4,c4⟩:TkV))).length=l.length/\(lk.set k (lk[k].1,(⟨a6,c6,a4,c4⟩:TkV))).map (·.1)=l.map (·.1)/\∀ j,k+1<=j->(lk.set k (lk[k].1,(⟨a6,c6,a4,c4⟩:TkV)))[j]?=l[j]?) :=
    ⟨by rw[List.length_set];exact HL.out.1,(b6l hltk _).trans HL.out.2.1,fun j h=>by rw[List.getElem?_set_ne (by omega)];exact HL.out.2.2 j (by omega)⟩
   clear HB5 HY5 HC5 b5 HO5 HS5 z5 HR5 HK5 HB6 HY6 HC6 b6 row6 zz6 HS6 HO6 HR7 hset hown6 hb6 c12 HRo
   go_wp2
   go_roundw
   case rel=>exact⟨k+1,_,by omega,by go_num,HL7,HP7,HC7,HB7,HY7,Hb7,Hz7⟩
   case measure=>simp[intOf];omega
  ·have HTO:Hid (Ce wr g g l.length lk):=HP.out.own (by rw[HL.out.1];omega) (by rw[HL.out.1];exact n5) (fun p hp=>by
    have:p.1∈l.map (·.1):=by rw[<- HL.out.2.1];exact List.mem_map.2 ⟨p,hp,rfl⟩
    obtain⟨q,hq,e⟩:=List.mem_map.1 this
    rw[<- e];exact HHm.out q hq) (fun p hp=>by
    have:p.1∈l.map (·.1):=by rw[<- HL.out.2.1];exact List.mem_map.2 ⟨p,hp,rfl⟩
    obtain⟨q,hq,e⟩:=List.mem_map.1 this
    rw[<- e];exact HKm.out q hq)
   have l6:Hid (wr.rangeAt w.heap.size 0 [Y gS M.slots.length kS,Y gH M.heads.length kH,Y gF M.free.length kF,Y gL M.locks.length kL,O J M.now,Y (some ⟨g,0,none⟩) l.length l.length]):=Bz HB.out rfl
   have t6:Hid (wr.there (w.heap.size+1) 0 6):=Dn HY.out (by simp)
   have HY8:Hid ((wr.setCells (w.heap.size+1) 0 [Y gS M.slots.length kS,Y gH M.heads.length kH,Y gF M.free.length kF,Y gL M.locks.length kL,O J M.now,Y (some ⟨g,0,none⟩) l.length l.length]).heap[w.heap.size+1]?=_):=a3t HY.out _ _ _ _ _ _
   have ho8:∀ j,j≠w.heap.size+1->(wr.setCells (w.heap.size+1) 0 [Y gS M.slots.length kS,Y gH M.heads.length kH,Y gF M.free.length kF,Y gL M.locks.length kL,O J M.now,Y (some ⟨g,0,none⟩) l.length l.length]).heap[j]?=wr.heap[j]?:=fun j h=>Ae h _ _ _
   have HO8:Hid _:=ho8
   have b8:Below w.heap.size w (wr.setCells (w.heap.size+1) 0 [Y gS M.slots.length kS,Y gH M.heads.length kH,Y gF M.free.length kF,Y gL M.locks.length kL,O J M.now,Y (some ⟨g,0,none⟩) l.length l.length]):=Bq Hb.out (Nat.le_succ _)
   have z8:(wr.setCells (w.heap.size+1) 0 [Y gS M.slots.length kS,Y gH M.heads.length kH,Y gF M.free.length kF,Y gL M.locks.length kL,O J M.now,Y (some ⟨g,0,none⟩) l.length l.length]).heap.size=wr.heap.size:=setCells_size _ _ _
   clear ho8 HB HY q0 q1 q2 q3 q4 q5 qs
   go_wp2_with (first|refine Ky rfl _ rfl rfl l6.out ?_|refine Qd rfl _ _ rfl rfl rfl t6.out (by kernel_rfl) ?_)
   generalize wr.setCells _ 0 _=W8 at *
   refine bodyPost_ret (results_cell_row Tryz.results57 _ W8 (w.heap.size+1) 28 _ (0,0) _ rfl HY8.out Tryz.underlying28 rfl (by kernel_rfl)) rfl ?_
   refine⟨gS,gH,gF,gL,kS,kH,kF,kL,g,l.length,lk,g,by rw[HL.out.1],?_,HLo.out,?_,?_,HL.out.2.1,by omega,b8⟩
   ·have h:=HC.out
    have q:∀ {lo e size n:Nat} {v:Value} {xs:List Value},wr.ownsRow lo e size v n xs->W0.heap.size<=lo->W8.ownsRow w.heap.size e size v n xs:=fun {lo e size n v xs} h hl=>ownsRow_le (Dx h fun k hk=>HO8.out k (by have:=(h.lt k hk).1;omega)) (by omega)
    exact⟨q h.s (Nat.le_refl _),q h.h (Nat.le_refl _),q h.f (Nat.le_refl _),q h.l (Nat.le_refl _),h.hf,h.hl,h.fl,b8.size⟩
   ·refine HTO.out.same fun k _ hk=>HO8.out k ?_
    rcases hk with rfl|⟨p,hp,a,ha,rfl⟩|⟨p,hp,a,ha,rfl⟩
    ·omega
    ·have:=(HTO.out.hlo hp ha).1;omega
    ·have:=HTO.out.klo p hp a ha;omega
   ·intro p hp a ha
    obtain⟨j,hj,rfl⟩:=List.getElem_of_mem hp
    have hko:=HP.out.keys j hj (by have:=HL.out.1;omega)
    have hz:=(hko.lt a ha).2
    have h1:=hko.own
    rw[ha] at h1
    refine⟨by omega,fun e=>I5 h1 HP.out.row (by decide) a.block rfl (by rw[e];rfl),fun q hq b hb e=>?_⟩
    have h2:=HTO.out.held q hq
    rw[hb] at h2
    exact I5 h1 h2 (by decide) a.block rfl (by rw[e];rfl)
end
section
open Go.ChangeShapes Go.WideShapes Go.ChangeAt Go.RowKit Go.Joins Go.Deep Go.Sort
def Uz(l:List Int)(x i:Int):Prop:=(i=-1/\x ∉ l)\/∃ (k:Nat) (h:k<l.length),i=(k:Int)/\l[k]=x/\x ∉ l.take k
set_option maxHeartbeats 400000 in
theorem index_first(ao:Option Addr)(cap:Nat)(l:List Int)(x:Int)(w:World)(r:Ea w ao cap l) :
  Calls Tryz.prog 78 #[Y ao l.length cap,O J x] w fun e w'=>∃ i:Int,e=.returned (O J i)/\Uz l x i/\w=w':=by
 have m1:=r.max
 have HAT:Hid (∀ i (h:i<l.length),∃ b o,ao=some ⟨b,o,none⟩/\w.cell? ⟨b,o+i,none⟩=some (O J l[i])):=fun i h=>by
  rcases r.at_ with h0|⟨b,o,e,hc⟩
  ·omega
  ·exact⟨b,o,e,hc i h⟩
 clear r
 go_enter Tryz.func78,Tryz.ntmps78
 go_wp2
 go_loop [8] (fun i=>∃ k:Nat,k<=l.length/\i=O J k/\Hid (x ∉ l.take k)) (fun i=>l.length - (intOf i).toNat)
 case atStart=>exact⟨0,Nat.zero_le _,rfl,by show _ ∉ _;simp⟩
 case round =>
  obtain⟨k,hk,rfl,HC⟩:=hrel
  by_cases hlt:k<l.length
  ·obtain⟨b,o,rfl,hck⟩:=HAT.out k hlt
   have HTk:Hid (∀ y,l[k]=y->x≠y->x ∉ l.take (k+1)):=fun y e hn=>by
    show _ ∉ _
    rw[List.take_succ_eq_append_getElem hlt]
    simp only[List.mem_append,List.mem_singleton,not_or]
    exact⟨HC.out,by rw[e];exact hn⟩
   by_cases hx:x=l[k]
   ·have HH:Hid (Uz l x k):=.inr ⟨k,hlt,rfl,hx.symm,HC.out⟩
    generalize l[k]=y at hck hx
    subst hx
    go_wp2
    go_ret
    exact⟨k,rfl,HH.out,rfl⟩
   ·have HH:Hid (x ∉ l.take (k+1)):=HTk.out _ rfl hx
    have hx':(x==l[k])=false:=by simpa using hx
    go_wp2
    go_round
    case rel=>exact⟨k+1,by omega,by go_num,HH⟩
    case measure=>simp[intOf];omega
  ·have HH:Hid (Uz l x (-1)):=.inl ⟨rfl,by
    have:=HC.out
    rwa [show k=l.length by omega,List.take_length] at this⟩
   go_wp2
   go_ret
   exact⟨-1,rfl,HH.out,rfl⟩
theorem a0r{l:List Int}{x:Int}{k:Nat}(h:k<l.length)(e:l[k]=x)(hn:x ∉ l.take k):l.erase x=l.eraseIdx k:=by
 induction l generalizing k with
 | nil=>simp at h
 | cons y l ih =>
  cases k with
  | zero =>
   simp at e
   subst e
   simp
  | succ k =>
   simp at hn
   rw[List.erase_cons_tail (by simpa using fun e=>hn.1 e.symm),List.eraseIdx_cons_succ]
   rw[ih (by simpa using h) (by simpa using e) hn.2]
theorem a3p{w:World}{lo g c i j:Nat}{l:List Int}(hO:w.ownsRow lo 3 1 (Y (some ⟨g,0,none⟩) l.length c) l.length (encI l))(hi:i<l.length)(hj:j=i+1)(q:Nat)(hq:q=l.length - 1)(z:Value) :
  (((w.drew).setCells g i ((encI l).drop j)).setCells g q [z]).ownsRow lo 3 1 (Y (some ⟨g,0,none⟩) (l.eraseIdx i).length c) (l.eraseIdx i).length (encI (l.eraseIdx i)):=by
 subst hj hq
 have hlen:(l.eraseIdx i).length=l.length - 1:=List.length_eraseIdx_of_lt hi
 have hL:=Il l
 have h0:w.drew.ownsRow lo 3 1 (Y (some ⟨g,0,none⟩) l.length c) l.length (encI l):=hO.drew
 have h1:=Kv ((encI l).drop (i+1)) i w.drew (encI l) h0 (by rw[List.length_drop];omega)
 have h2:=Kv [z] (l.length - 1) _ _ h1 (by simp only[List.length_append,List.length_take,List.length_drop,List.length_singleton];omega)
 have e:(List.take i (encI l)++List.drop (i+1) (encI l)++List.drop (i+(List.drop (i+1) (encI l)).length) (encI l)).take (l.length - 1)=encI (l.eraseIdx i):=by
  rw[List.take_append_of_le_length (by simp only[List.length_append,List.length_take,List.length_drop];omega),List.take_of_length_le (by simp only[List.length_append,List.length_take,List.length_drop];omega),List.eraseIdx_eq_take_drop_succ]
  simp[encI]
 rw[e] at h2
 have e2:List.drop (l.length - 1 + [z].length) (List.take i (encI l)++List.drop (i+1) (encI l)++List.drop (i+(List.drop (i+1) (encI l)).length) (encI l))=[]:=by
  apply List.drop_of_length_le
  simp only[List.length_append,List.length_take,List.length_drop,List.length_singleton];omega
 rw[e2,List.append_nil] at h2
 obtain⟨m,hm⟩:∃ m,l.length=m+1:=⟨l.length - 1,by omega⟩
 rw[hm] at h2
 refine ownsRow_pop (last:=[z]) (by rw[Il,hlen];omega) ?_
 rw[hlen,hm]
 simpa using h2
set_option maxHeartbeats 3200000 in
theorem b4m(g c i j lo:Nat)(l:List Int)(w:World)(hO:w.ownsRow lo 3 1 (Y (some ⟨g,0,none⟩) l.length c) l.length (encI l))(hi:i<l.length)(hj:j=i+1)(hbig:l.length<=1000) :
  Calls Tryz.prog 198 #[Y (some ⟨g,0,none⟩) l.length c,O J (i:Int),O J (j:Int)] w fun e w'=>e=.returned (Y (some ⟨g,0,none⟩) (l.eraseIdx i).length c)/\w'.ownsRow lo 3 1 (Y (some ⟨g,0,none⟩) (l.eraseIdx i).length c) (l.eraseIdx i).length (encI (l.eraseIdx i))/\Fine w w' (fun k=>k=g):=by
 have hlen:(l.eraseIdx i).length=i+(l.length - j):=by rw[List.length_eraseIdx_of_lt hi];omega
 obtain⟨i0,hi0,hz0,hz1,hz2⟩:=info_parts iI
 obtain⟨hcap,hcm⟩:l.length<=c/\c<=maxLen:=by
  rcases hO.2 with ⟨h,-⟩|⟨g',cap,cur,h,-,-,hc,hm,-⟩
  ·cases h
  ·injection h with h1 h2 h3
   omega
 have hm:c<=9223372036854775807:=by unfold maxLen at hcm;exact hcm
 obtain⟨news,hnews⟩:∃ news,news=(encI l).drop j:=⟨_,rfl⟩
 have HE:Hid (∀ q z,q=i+(l.length - j)->((w.drew.setCells g i news).setCells g q [z]).ownsRow lo 3 1 (Y (some ⟨g,0,none⟩) (l.eraseIdx i).length c) (l.eraseIdx i).length (encI (l.eraseIdx i))):=fun q z hq=>hnews ▸ a3p hO hi hj q (by omega) z
 have hL:=Il l
 have hnl:news.length=l.length - j:=by rw[hnews,List.length_drop];omega
 have hcell:∀ t,t<l.length->(w.drew.cell? ⟨g,t,none⟩).isSome=true:=fun t ht=>by
  have e:w.drew.cell? ⟨g,t,none⟩=_:=hO.cellAt t (by omega)
  rw[e,List.getElem?_eq_getElem (by omega)]
  rfl
 have hfz:∀ t,w.drew.frozen? ⟨g,t,none⟩=false:=fun t=>hO.frozenAt t
 obtain⟨A,hA,hsrc⟩:∃ A:Addr,(if c=j then some (⟨g,0,none⟩:Addr) else some ⟨g,j,none⟩)=some A/\Hid (∀ t u,news[t]?=some u->w.drew.cell? (A.add t)=some u):=by
  by_cases h:c=j
  ·refine⟨⟨g,0,none⟩,by simp[h],fun t u hu=>?_⟩
   have h0:news.length=0:=by rw[hnl];omega
   rw[List.length_eq_zero_iff.1 h0] at hu
   simp at hu
  ·refine⟨⟨g,j,none⟩,by simp[h],fun t u hu=>?_⟩
   have ht:t<l.length - j:=by
    have:=(List.getElem?_eq_some_iff.1 hu).1
    rwa [hnl] at this
   rw[Addr.add_lit]
   have e:w.drew.cell? ⟨g,j+t,none⟩=_:=hO.cellAt (j+t) (by omega)
   rw[e,<- hu,hnews,List.getElem?_drop]
 have s1:Hid (news.length=(l.length - j)*1):=by show _=_;omega
 have s2:Hid (∀ u∈news,u.oneCell'=true):=fun u hu=>a0i l u (List.mem_of_mem_drop (hnews ▸ hu))
 have s3:Hid (∀ t,t<news.length->(w.drew.cell? ⟨g,0+i*1+t,none⟩).isSome=true/\w.drew.frozen? ⟨g,0+i*1+t,none⟩=false):=fun t ht=>by
  rw[hnl] at ht
  exact⟨hcell _ (by omega),hfz _⟩
 obtain⟨W1,hW1⟩:∃ W1,W1=w.drew.setCells g (0+i*1) news:=⟨_,rfl⟩
 have hv:∀ w,(zeroValue 3).run Tryz.prog w=.ok (O J 0) w:=fun w=>by kernel_rfl
 have hcl:∀ ty,(Builtin.clear_ #[23] ty #[Y (some ⟨g,i+(l.length - j),none⟩) (l.length - (i+(l.length - j))) (c - (i+(l.length - j)))]).run Tryz.prog W1=.ok (.tuple #[]) (W1.setCells g (i+(l.length - j)) [O J 0]):=fun ty=>by
  have h:=Lib.run_clear_slice (P:=Tryz.prog) W1 23 3 ty (O J 0) Tryz.underlying23 hv (by kernel_rfl) (by kernel_rfl) g (i+(l.length - j)) (l.length - (i+(l.length - j))) (c - (i+(l.length - j))) (by omega) (fun t ht=>by
   rw[hW1,World.cell?_setCells_out g _ _ _ _ (fun _ _=>.inr (by rw[hnl];dsimp only;omega))]
   exact hcell _ (by omega)) (fun t ht=>by rw[hW1,World.frozen?_setCells];exact hfz _)
  rw[show l.length - (i+(l.length - j))=1 by omega] at h ⊢
  exact h
 have HB:Hid (Fine w W1 (fun k=>k=g)):=by
  rw[hW1]
  exact⟨(Au _ _ _).1,(Au _ _ _).2.1,(Au _ _ _).2.2,by rw[setCells_size];exact Nat.le_refl _,fun k h1 h2=>Ae h2 _ _ _⟩
 have hW:Hid (W1=w.drew.setCells g (0+i*1) news):=hW1
 have hic:i<=c:=by omega
 have hjc:j<=c:=by omega
 have hlt:i<j:=by omega
 have hjn:j<=l.length:=by omega
 rw[hlen]
 rw[hlen] at HE
 clear hW1 hcell hfz hO hnews hnl hlen hj hi hcm hL hv
 generalize encI (l.eraseIdx i)=xs at *
 generalize l.length=n at *
 go_enter Tryz.func198,Tryz.ntmps198
 go_wp2_with fail
 go_region_law (refine step_append_room rfl _ _ 23 rfl 3 i0 1 Tryz.underlying23 hi0 hz1 g 0 i c (by simp[Act.eval,Act.put]) A (n - j) (c - j) news (by simp[Act.eval,Act.put]) s1.out hsrc.out s2.out (by omega) s3.out ?_;rw[<- hW.out])
 go_wp2
 go_ret
 refine⟨rfl,?_,?_⟩
 ·have h:=HE.out _ (O J 0) rfl
  rw[hW.out,Nat.zero_add,Nat.mul_one]
  exact h
 ·have h:=HB.out
  exact⟨(Au _ _ _).1.trans h.os,(Au _ _ _).2.1.trans h.tape,(Au _ _ _).2.2.trans h.output,by rw[setCells_size];exact h.size,fun k h1 h2=>(Ae h2 _ _ _).trans (h.block k h1 h2)⟩
end
section
open Go.ChangeShapes Go.WideShapes Go.ChangeAt Go.RowKit Go.Joins Go.Deep
structure WM(w:World)(n0 B lo lo2:Nat)(aS aH aF aL:Option Addr)(cS cH cF cL:Nat)(M:Mm)(g cT n:Nat)(l:List (Tk × TkV)):Prop where
 m:Mine (Xw (some ⟨g,0,none⟩) n cT) w B lo aS aH aF aL cS cH cF cL M
 t:Ce w lo2 g cT l
 len:l.length=n
 ap:∀ k,A8 B aS aH aF aL k->¬ TB g l k
 ka:∀ p∈l,∀ a,p.2.aK=some a->a.block<w.heap.size/\a.block≠g/\∀ q∈l,∀ b,q.2.aH=some b->a.block≠b.block
 hlo:n0<=lo
 hlo2:n0<=lo2
def WP(n0 B:Nat)(W':Wd)(w w':World):Prop :=
 ∃ aS aH aF aL cS cH cF cL aT cT l,w'.heap[B]?=some (.cells #[Y aS (W'.m).slots.length cS,Y aH (W'.m).heads.length cH,Y aF (W'.m).free.length cF,Y aL (W'.m).locks.length cL,O J (W'.m).now,Y aT (List.length l) cT] 28 (0,0))/\At w' aS aH aF aL cS cH cF cL W'.m/\Hi4 n0 aS aH aF aL/\J6 w' aT cT l/\THi n0 aT l/\l.map (·.1)=W'.ts/\Kept w w' B n0
theorem Mine.b9m{Xb:Ex}{w:World}{B lo:Nat}{aS aH aF aL:Option Addr}{cS cH cF cL:Nat}{M:Mm}(m:Mine Xb w B lo aS aH aF aL cS cH cF cL M)(t:Int):Mine Xb (w.setCell ⟨B,4,none⟩ (O J t)) B lo aS aH aF aL cS cH cF cL { M with now:=t }:=by
 obtain⟨hB,⟨s,h,f,l,hf,hl,fl,lz⟩,m1,m2,m3,m4⟩:=m
 refine⟨?_,⟨ownsRow_setCell_other s (own_ne s hB (Ex.ne _ _ (by decide))) _,ownsRow_setCell_other h (own_ne h hB (Ex.ne _ _ (by decide))) _,ownsRow_setCell_other f (own_ne f hB (Ex.ne _ _ (by decide))) _,ownsRow_setCell_other l (own_ne l hB (Ex.ne _ _ (by decide))) _,hf,hl,fl,by rw[World.size_setCell];exact lz⟩,m1,m2,m3,m4⟩
 have:=block_setCell (i:=4) hB (O J t)
 simpa using this
theorem a9f{Xb:Ex}{w:World}{B lo:Nat}{aS aH aF aL:Option Addr}{cS cH cF cL:Nat}{M:Mm}(m:Mine Xb w B lo aS aH aF aL cS cH cF cL M)(h:M.now=1000000) :
  Calls Tryz.prog 105 #[.pointer (some ⟨B,0,none⟩)] w fun e w'=>e=.returned (O J 7)/\w'=w:=by
 obtain⟨q0,q1,q2,q3,q4,f0,f1,f2,f3,f4,qs⟩:=Aj m.box
 rw[h] at q4
 clear m h
 go_enter Tryz.func105,Tryz.ntmps105
 go_wp2
 go_ret
 exact⟨rfl,rfl⟩
theorem b7f{Xb:Ex}{w:World}{B lo:Nat}{aS aH aF aL:Option Addr}{cS cH cF cL:Nat}{M:Mm}(m:Mine Xb w B lo aS aH aF aL cS cH cF cL M)(h:M.now≠1000000)(h0:0<=M.now/\M.now<=1000000) :
  Calls Tryz.prog 105 #[.pointer (some ⟨B,0,none⟩)] w fun e w'=>e=.returned (O J 0)/\w'=w.setCell ⟨B,4,none⟩ (O J (M.now+1)):=by
 obtain⟨q0,q1,q2,q3,q4,f0,f1,f2,f3,f4,qs⟩:=Aj m.box
 clear m
 have h':(M.now==1000000)=false:=by simpa using h
 have hw:IntKind.i64.wrap (M.now+1)=M.now+1:=by rw[IntKind.wrap_i64];omega
 clear h
 generalize M.now=t at *
 go_enter Tryz.func105,Tryz.ntmps105
 go_wp2
 go_ret
 exact⟨rfl,rfl⟩
def a5x(M:Mm)(t:Tk)(c:Cl):Int :=
 if t.busy then 8 else if Df M.slots.length M.heads.length c≠0 then Df M.slots.length M.heads.length c
 else if c.kind=1/\100<=t.held.length then 7 else if c.kind=6/\hasB t.held c.slot=false then 6 else 0
def BegP(w:World)(lo2 g cT:Nat)(l:List (Tk × TkV))(i:Nat)(c:Cl)(E:Int)(e:Ending)(w':World):Prop :=
 e=.returned (O J E)/\((E≠0/\Below w.heap.size w w')\/(E=0/\(∃ h:i<l.length,Ce w' lo2 g cT (l.set i (⟨true,Aw c,l[i].1.held⟩,⟨none,0,l[i].2.aH,l[i].2.cH⟩)))/\Fine w w' (fun k=>k=g)))
theorem b8v{w:World}{a:Option Addr}{c:Nat}{l:List Int}(r:Ea w a c l)(n:Nat):Ea (w.drewN n) a c l:=Yp r fun _ _=>rfl
set_option maxHeartbeats 1600000 in
theorem a5z(M:Mm)(c:Cl)(aS aH aF aL:Option Addr)(cS cH cF cL:Nat)(g cT lo2 i:Nat)(l:List (Tk × TkV))(w:World)(T:Ce w lo2 g cT l)(hi:i<l.length)(m1:M.slots.length<=9223372036854775807)(m2:M.heads.length<=9223372036854775807) :
  Calls Tryz.prog 107 #[.agg #[Y aS M.slots.length cS,Y aH M.heads.length cH,Y aF M.free.length cF,Y aL M.locks.length cL,O J M.now],.pointer (some ⟨g,i*16,none⟩),.agg #[O J c.kind,O J c.a,O J c.b,O J c.time,O J c.bk,O J c.slot]] w (BegP w lo2 g cT l i c (a5x M l[i].1 c)):=by
 obtain⟨C0,hC0⟩:∃ x,x=Df M.slots.length M.heads.length c:=⟨_,rfl⟩
 have HC0:Hid (C0=Df M.slots.length M.heads.length c):=hC0
 obtain⟨E0,hE0⟩:∃ x,x=a5x M l[i].1 c:=⟨_,rfl⟩
 rw[<- hE0]
 have HV0:Hid (E0=if l[i].1.busy then 8 else if C0≠0 then C0 else if c.kind=1/\100<=l[i].1.held.length then 7 else if c.kind=6/\hasB l[i].1.held c.slot=false then 6 else 0):=by rw[hC0];exact hE0
 clear hE0 hC0
 have hgz:=T.glo.2
 obtain⟨ox,hox⟩:∃ o:Obj,o=.cells #[Y aS M.slots.length cS,Y aH M.heads.length cH,Y aF M.free.length cF,Y aL M.locks.length cL,O J M.now] 25:=⟨_,rfl⟩
 obtain⟨oy,hoy⟩:∃ o:Obj,o=.cells #[O J c.kind,O J c.a,O J c.b,O J c.time,O J c.bk,O J c.slot] 32:=⟨_,rfl⟩
 have b0:Below w.heap.size w ((w.alloc ox).alloc oy):=below_alloc2 w ox oy
 have HX0:Hid (((w.alloc ox).alloc oy).heap[w.heap.size]?=some ox):=by show _=_;rw[Below.heap_alloc _ _ _ (by simp),heap_alloc_new]
 have HY0:Hid (((w.alloc ox).alloc oy).heap[w.heap.size+1]?=some oy):=by
  have:=heap_alloc_new (w.alloc ox) oy
  rwa [show (w.alloc ox).heap.size=w.heap.size+1 by simp] at this
 have HT:Hid (Ce w lo2 g cT l):=T
 have HT0:Hid (Ce ((w.alloc ox).alloc oy) lo2 g cT l):=T.below b0
 have HI:Hid (Ea w l[i].2.aH l[i].2.cH l[i].1.held):=T.b7g.held _ (List.getElem_mem hi)
 have hhm:=T.hm _ (List.getElem_mem hi)
 have HRef:Hid (∀ (E:Int) (W:World),E0=E->E≠0->Below w.heap.size w W->BegP w lo2 g cT l i c E0 (.returned (O J E)) W):=fun E W h1 h2 h3=>⟨by rw[h1],.inl ⟨by rw[h1];exact h2,h3⟩⟩
 obtain⟨tb,htb⟩:∃ tb,tb=l[i].1.busy:=⟨_,rfl⟩
 obtain⟨hd,hhd⟩:∃ hd,hd=l[i].1.held:=⟨_,rfl⟩
 obtain⟨aD,haD⟩:∃ a,a=l[i].2.aH:=⟨_,rfl⟩
 obtain⟨cD,hcD⟩:∃ a,a=l[i].2.cH:=⟨_,rfl⟩
 rw[<- htb,<- hhd] at HV0
 rw[<- hhd,<- haD,<- hcD] at HI
 rw[<- hhd] at hhm
 have HTc:Hid (∀ W:World,Ce W lo2 g cT l->W.cell? ⟨g,i*16,none⟩=some (.bool tb)/\W.frozen? ⟨g,i*16,none⟩=false/\W.cell? ⟨g,i*16+15,none⟩=some (Y aD hd.length cD)):=fun W TW=>⟨by rw[htb];exact(TW.busy hi).1,(TW.busy hi).2,by rw[hhd,haD,hcD];exact(TW.b0z hi).1⟩
 obtain⟨e0,-,e2⟩:=HTc.out _ T
 clear T HT htb hhd haD hcD
 go_enter Tryz.func107,Tryz.ntmps107
 cases tb
 rotate_left
 ·have HV:Hid (E0=8):=HV0.out
  go_wp2
  go_ret
  exact HRef.out 8 _ HV.out (by decide) (by rw[<- hox,<- hoy];exact b0)
 go_wp2_with fail
 rw[<- hox,<- hoy]
 generalize (w.alloc ox).alloc oy=W0 at *
 subst hox hoy
 refine(a0e HC0.out aS aH aF aL M.free.length M.locks.length cS cH cF cL M.now W0 m1 m2).mono ?_
 rintro e w1 ⟨rfl,hb1⟩
 have HY1:Hid (w1.heap[w.heap.size+1]?=_):=(hb1.block _ (lt_of_block HY0.out)).trans HY0.out
 have HT1:Hid (Ce w1 lo2 g cT l):=HT0.out.below hb1
 have HI1:Hid (Ea w1 aD cD hd):=HI.out.below (b0.trans (hb1.mono b0.size))
 have b1:Below w.heap.size w w1:=b0.trans (hb1.mono b0.size)
 clear HX0 HY0 HT0 HI hb1 b0 e0 e2
 by_cases hC:C0=0
 rotate_left
 ·have h':(C0 != 0)=true:=by simpa using hC
  have HV:Hid (E0=C0):=by have:=HV0.out;rw[if_neg (by simp),if_pos hC] at this;exact this
  clear HV0
  go_wp2
  go_ret
  exact HRef.out C0 _ HV.out hC b1
 have HV1:Hid (E0=if c.kind=1/\100<=hd.length then 7 else if c.kind=6/\hasB hd c.slot=false then 6 else 0):=by have:=HV0.out;rw[if_neg (by simp),if_neg (by simpa using hC)] at this;exact this
 clear HV0 HC0
 subst hC
 obtain⟨d0,d1,d2⟩:=HTc.out _ HT1.out
 have y0:w1.cell? ⟨w.heap.size+1,0,none⟩=some (O J c.kind):=by rw[cell_of_block HY1.out];rfl
 have y5:w1.cell? ⟨w.heap.size+1,5,none⟩=some (O J c.slot):=by rw[cell_of_block HY1.out];rfl
 have lC:Hid (w1.rangeAt (w.heap.size+1) 0 [O J c.kind,O J c.a,O J c.b,O J c.time,O J c.bk,O J c.slot]):=Bz HY1.out rfl
 have tF:Hid (w1.there g (i*16+1) 14):=HT1.out.there hi (by decide)
 by_cases hk1:c.kind=1
 ·by_cases hh:100<=hd.length
  ·have HV:Hid (E0=7):=by have:=HV1.out;rw[if_pos ⟨hk1,hh⟩] at this;exact this
   have hh':(100:Int)<=(hd.length:Int):=by omega
   rw[hk1] at y0
   clear HV1 lC
   go_wp2
   go_ret
   exact HRef.out 7 _ HV.out (by decide) b1
  ·have HV:Hid (E0=0):=by have:=HV1.out;rw[if_neg (fun h=>hh h.2),if_neg (fun h=>by have:=h.1;omega)] at this;exact this
   have hh':decide ((100:Int)<=(hd.length:Int))=false:=by simpa using (by omega:¬ (100:Int)<=(hd.length:Int))
   rw[hk1] at y0
   clear HV1 hh tF hk1
   go_wp2_with fail
   go_quiet (fail)
   have HT2:Hid (Ce (w1.drewN nq) lo2 g cT l):=HT1.out.same fun _ _ _=>rfl
   have lC2:Hid ((w1.drewN nq).rangeAt (w.heap.size+1) 0 [O J c.kind,O J c.a,O J c.b,O J c.time,O J c.bk,O J c.slot]):=lC.out
   have b2:Below w.heap.size w (w1.drewN nq):=below_drewN b1 nq
   clear HT1 HI1 lC b1 HY1 y0 y5 d0 d1 d2
   generalize w1.drewN nq=W2 at *
   go_wp2_with (refine b3k rfl _ rfl rfl lC2.out ?_)
   refine(Uf c W2).mono ?_
   rintro e w3 ⟨rfl,hb3⟩
   have HT3:Hid (Ce w3 lo2 g cT l):=HT2.out.below hb3
   have HF3:Hid (Fine w w3 (fun k=>k=g)):=.of_below _ (b2.trans (hb3.mono b2.size))
   obtain⟨d0,d1,d2⟩:=HTc.out _ HT3.out
   have tF:Hid ((w3.setCell ⟨g,i*16,none⟩ (.bool true)).there g (i*16+1) 14):=(HT3.out.setB hi true).there (by rw[List.length_set];exact hi) (by decide)
   clear hb3 HT2 lC2 b2
   go_wp2_with (refine Qz (f:=Aw c) rfl _ _ rfl rfl rfl tF.out ?_)
   go_ret
   refine⟨by rw[HV.out];rfl,.inr ⟨HV.out,⟨hi,?_⟩,?_⟩⟩
   ·have h1:=HT3.out.setB hi true
    have hi':i<(l.set i (⟨true,l[i].1.f,l[i].1.held⟩,l[i].2)).length:=by rw[List.length_set];exact hi
    have h2:=h1.b6k hi' (Aw c) none 0 (P7 _) (fun _ h=>by cases h) (fun h=>absurd rfl h) (fun h=>absurd rfl h)
    rw[List.set_set] at h2
    simpa using h2
   ·have h:=HF3.out.set (k:=g) (.inl rfl) (i*16) (.bool true)
    exact⟨(Au _ _ _).1.trans h.os,(Au _ _ _).2.1.trans h.tape,(Au _ _ _).2.2.trans h.output,by rw[setCells_size];exact h.size,fun k h1 h2=>(Ae h2 _ _ _).trans (h.block k h1 h2)⟩
 by_cases hk6:c.kind=6
 ·have hq1:(c.kind==1)=false:=by simpa using hk1
  have hq6:(c.kind==6)=true:=by simpa using hk6
  have HV2:Hid (E0=if hasB hd c.slot=false then 6 else 0):=by
   have:=HV1.out
   rw[if_neg (fun h=>hk1 h.1)] at this
   show _=_
   rw[this]
   by_cases hb:hasB hd c.slot=false
   ·rw[if_pos ⟨hk6,hb⟩,if_pos hb]
   ·rw[if_neg (fun h=>hb h.2),if_neg hb]
  have HCt:Hid (∀ n,Calls Tryz.prog 33 #[Y aD hd.length cD,O J c.slot] (w1.drewN n) fun e w'=>e=.returned (.bool (hasB hd c.slot))/\w'=w1.drewN n):=fun n=>by
   have r:=b8v HI1.out n
   have h:=Jz aD hd.length cD hd c.slot (w1.drewN n) (Nat.le_refl _) (by have:=r.max;omega) r.at_
   refine h.mono ?_
   rintro e w' ⟨rfl,rfl⟩
   exact⟨by rw[List.take_length],rfl⟩
  clear HV1 tF hk1 hk6
  generalize hasB hd c.slot=hb at *
  go_wp2_with fail
  go_quiet (first|(go_at_call 33;exact Calls.quiet_of_same (HCt.out _)))
  cases hb
  ·have HV:Hid (E0=6):=HV2.out
   go_wp2
   go_ret
   exact HRef.out 6 _ HV.out (by decide) (below_drewN b1 nq)
  ·have HV:Hid (E0=0):=HV2.out
   have HT2:Hid (Ce (w1.drewN nq) lo2 g cT l):=HT1.out.same fun _ _ _=>rfl
   have lC2:Hid ((w1.drewN nq).rangeAt (w.heap.size+1) 0 [O J c.kind,O J c.a,O J c.b,O J c.time,O J c.bk,O J c.slot]):=lC.out
   have b2:Below w.heap.size w (w1.drewN nq):=below_drewN b1 nq
   clear HT1 HI1 lC b1 HY1 y0 y5 d0 d1 d2
   generalize w1.drewN nq=W2 at *
   go_wp2_with (refine b3k rfl _ rfl rfl lC2.out ?_)
   refine(Uf c W2).mono ?_
   rintro e w3 ⟨rfl,hb3⟩
   have HT3:Hid (Ce w3 lo2 g cT l):=HT2.out.below hb3
   have HF3:Hid (Fine w w3 (fun k=>k=g)):=.of_below _ (b2.trans (hb3.mono b2.size))
   obtain⟨d0,d1,d2⟩:=HTc.out _ HT3.out
   have tF:Hid ((w3.setCell ⟨g,i*16,none⟩ (.bool true)).there g (i*16+1) 14):=(HT3.out.setB hi true).there (by rw[List.length_set];exact hi) (by decide)
   clear hb3 HT2 lC2 b2
   go_wp2_with (refine Qz (f:=Aw c) rfl _ _ rfl rfl rfl tF.out ?_)
   go_ret
   refine⟨by rw[HV.out];rfl,.inr ⟨HV.out,⟨hi,?_⟩,?_⟩⟩
   ·have h1:=HT3.out.setB hi true
    have hi':i<(l.set i (⟨true,l[i].1.f,l[i].1.held⟩,l[i].2)).length:=by rw[List.length_set];exact hi
    have h2:=h1.b6k hi' (Aw c) none 0 (P7 _) (fun _ h=>by cases h) (fun h=>absurd rfl h) (fun h=>absurd rfl h)
    rw[List.set_set] at h2
    simpa using h2
   ·have h:=HF3.out.set (k:=g) (.inl rfl) (i*16) (.bool true)
    exact⟨(Au _ _ _).1.trans h.os,(Au _ _ _).2.1.trans h.tape,(Au _ _ _).2.2.trans h.output,by rw[setCells_size];exact h.size,fun k h1 h2=>(Ae h2 _ _ _).trans (h.block k h1 h2)⟩
 ·have hq1:(c.kind==1)=false:=by simpa using hk1
  have hq6:(c.kind==6)=false:=by simpa using hk6
  have HV:Hid (E0=0):=by have:=HV1.out;rw[if_neg (fun h=>hk1 h.1),if_neg (fun h=>hk6 h.1)] at this;exact this
  clear HV1 tF hk1 hk6
  go_wp2_with fail
  go_quiet (fail)
  have HT2:Hid (Ce (w1.drewN nq) lo2 g cT l):=HT1.out.same fun _ _ _=>rfl
  have lC2:Hid ((w1.drewN nq).rangeAt (w.heap.size+1) 0 [O J c.kind,O J c.a,O J c.b,O J c.time,O J c.bk,O J c.slot]):=lC.out
  have b2:Below w.heap.size w (w1.drewN nq):=below_drewN b1 nq
  clear HT1 HI1 lC b1 HY1 y0 y5 d0 d1 d2
  generalize w1.drewN nq=W2 at *
  go_wp2_with (refine b3k rfl _ rfl rfl lC2.out ?_)
  refine(Uf c W2).mono ?_
  rintro e w3 ⟨rfl,hb3⟩
  have HT3:Hid (Ce w3 lo2 g cT l):=HT2.out.below hb3
  have HF3:Hid (Fine w w3 (fun k=>k=g)):=.of_below _ (b2.trans (hb3.mono b2.size))
  obtain⟨d0,d1,d2⟩:=HTc.out _ HT3.out
  have tF:Hid ((w3.setCell ⟨g,i*16,none⟩ (.bool true)).there g (i*16+1) 14):=(HT3.out.setB hi true).there (by rw[List.length_set];exact hi) (by decide)
  clear hb3 HT2 lC2 b2
  go_wp2_with (refine Qz (f:=Aw c) rfl _ _ rfl rfl rfl tF.out ?_)
  go_ret
  refine⟨by rw[HV.out];rfl,.inr ⟨HV.out,⟨hi,?_⟩,?_⟩⟩
  ·have h1:=HT3.out.setB hi true
   have hi':i<(l.set i (⟨true,l[i].1.f,l[i].1.held⟩,l[i].2)).length:=by rw[List.length_set];exact hi
   have h2:=h1.b6k hi' (Aw c) none 0 (P7 _) (fun _ h=>by cases h) (fun h=>absurd rfl h) (fun h=>absurd rfl h)
   rw[List.set_set] at h2
   simpa using h2
  ·have h:=HF3.out.set (k:=g) (.inl rfl) (i*16) (.bool true)
   exact⟨(Au _ _ _).1.trans h.os,(Au _ _ _).2.1.trans h.tape,(Au _ _ _).2.2.trans h.output,by rw[setCells_size];exact h.size,fun k h1 h2=>(Ae h2 _ _ _).trans (h.block k h1 h2)⟩
end
section
open Go.ChangeShapes Go.WideShapes Go.ChangeAt Go.RowKit Go.Joins Go.Deep
def Qe(Xb:Ex)(w:World)(B lo:Nat)(Z:Nat->Prop)(lo2 g cT:Nat)(l:List (Tk × TkV))(i:Nat)(M':Mm)(f':Fr)(h':List Int)(e:Ending)(w':World):Prop :=
 ∃ (a:Option Addr) (c:Nat),e=.returned (.agg #[O J ((f').c).kind,O J ((f').c).a,O J ((f').c).b,O J ((f').c).time,O J ((f').c).bk,O J ((f').c).slot,O J (f').pl,O J (f').cur,O J (f').prev,O J (f').slot,O J (f').n,Y a (f').keys.length c,.bool (f').done,O J (f').e])/\Ag w' a c f'.keys/\(∀ ad,a=some ad->(∃ h:i<l.length,l[i].2.aK=some ad)\/w.heap.size<=ad.block)/\Has Xb w' B lo (Up w Z) M' /\
  (∃ h:i<l.length,Ce w' lo2 g cT (l.set i (⟨l[i].1.busy,l[i].1.f,h'⟩,l[i].2)))/\Fine w w' (fun k=>Z k\/TB g l k)
theorem Ce.fine{w w':World}{lo g cT:Nat}{l:List (Tk × TkV)}{Z:Nat->Prop}(T:Ce w lo g cT l)(hf:Fine w w' Z)(ap:∀ k,Z k->¬ TB g l k):Ce w' lo g cT l:=T.same fun k h hk=>hf.block k h (fun hz=>ap k hz hk)
theorem set_self{l:List (Tk × TkV)}{i:Nat}(h:i<l.length):l.set i (⟨l[i].1.busy,l[i].1.f,l[i].1.held⟩,⟨l[i].2.aK,l[i].2.cK,l[i].2.aH,l[i].2.cH⟩)=l:=List.set_getElem_self h
theorem Ce.b8q{w w1:World}{lo g cT i k gh cD:Nat}{l:List (Tk × TkV)}(T:Ce w lo g cT l)(hi:i<l.length)(hk:k<l[i].1.held.length)(ha:l[i].2.aH=some ⟨gh,0,none⟩)(hc:l[i].2.cH=cD)
  (ho:w1.ownsRow lo 3 1 (Y (some ⟨gh,0,none⟩) (l[i].1.held.eraseIdx k).length cD) (l[i].1.held.eraseIdx k).length (encI (l[i].1.held.eraseIdx k))) (hf:Fine w w1 (fun j=>j=gh)) :
  Ce (w1.setCell ⟨g,i*16+15,none⟩ (Y (some ⟨gh,0,none⟩) (l[i].1.held.eraseIdx k).length cD)) lo g cT (l.set i (⟨l[i].1.busy,l[i].1.f,l[i].1.held.eraseIdx k⟩,⟨l[i].2.aK,l[i].2.cK,some ⟨gh,0,none⟩,cD⟩)):=by
 refine T.setH hi (l[i].1.held.eraseIdx k) (some ⟨gh,0,none⟩) cD ?_ ho (fun j h hne=>hf.block j h (hne _ ha)) (fun x hx=>.inl ⟨⟨gh,0,none⟩,ha,by injection hx with hx;rw[<- hx]⟩)
 rw[List.length_eraseIdx_of_lt hk]
 have:=T.hm _ (List.getElem_mem hi)
 omega
theorem Um{B:Nat}{t:TypeId}:∀ (vs:List Value) (o:Nat) (w:World) (cs:Array Value),w.heap[B]?=some (.cells cs t (0,0))->o+vs.length<=cs.size->(w.setCells B o vs).heap[B]?=some (.cells (cs.toList.take o++vs++cs.toList.drop (o+vs.length)).toArray t (0,0))
 | [],o,w,cs,h,hl=>by rw[World.setCells,h];simp
 | v :: vs,o,w,cs,h,hl=>by
  rw[World.setCells]
  simp only[List.length_cons] at hl
  have:=Um vs (o+1) (w.setCell ⟨B,o,none⟩ v) _ (block_setCell (i:=o) h v) (by simp;omega)
  rw[this]
  congr 3
  have e1:(cs.toList.set o v).take (o+1)=cs.toList.take o ++ [v]:=by
   rw[List.set_eq_take_append_cons_drop,if_pos (by simp;omega),List.take_append,List.length_take,Nat.min_eq_left (by simp;omega),List.take_of_length_le (by rw[List.length_take];omega),show o+1 - o=1 by omega]
   rfl
  have e2:(cs.toList.set o v).drop (o+1+vs.length)=cs.toList.drop (o+(v :: vs).length):=by
   rw[List.drop_set_of_lt (by omega)]
   congr 1;simp;omega
  simp only[Array.toList_setIfInBounds]
  rw[e1,e2]
  simp
theorem D5{B:Nat}{t:TypeId}{vs:List Value}{w:World}{cs:Array Value}(h:w.heap[B]?=some (.cells cs t (0,0)))(hl:vs.length=cs.size):(w.setCells B 0 vs).heap[B]?=some (.cells vs.toArray t (0,0)):=by
 rw[Um vs 0 w cs h (by omega)]
 simp[hl]
theorem Gw{w w1:World}{Z:Nat->Prop}{B o:Nat}{vs:List Value}(h:Fine w w1 Z)(hB:Z B\/w.heap.size<=B):Fine w (w1.setCells B o vs) Z :=
 ⟨(Au _ _ _).1.trans h.os,(Au _ _ _).2.1.trans h.tape,(Au _ _ _).2.2.trans h.output,by rw[setCells_size];exact h.size,fun k h1 h2=>(Ae (fun e=>hB.elim (fun hz=>h2 (by rw[e];exact hz)) (fun hz=>by omega)) _ _ _).trans (h.block k h1 h2)⟩
theorem Mine.b1q{Xb:Ex}{w:World}{B lo X:Nat}{aS aH aF aL:Option Addr}{cS cH cF cL:Nat}{M:Mm}{cs:Array Value}(m:Mine Xb w B lo aS aH aF aL cS cH cF cL M)(hX:w.heap[X]?=some (.cells cs 47 (0,0))):¬ A8 B aS aH aF aL X:=by
 have hne:∀ {lo2 size n c2:Nat} {e:TypeId} {a2:Option Addr} {xs:List Value},w.ownsRow lo2 e size (Y a2 n c2) n xs->e≠47->∀ ad2,a2=some ad2->ad2.block≠X:=by
  rintro lo2 size n c2 e a2 xs h2 ne ad2 rfl heq
  exact own_ne h2 hX ne (by show some ad2.block=_;rw[heq])
 rintro (hB|⟨ad2,e,hb⟩|⟨ad2,e,hb⟩|⟨ad2,e,hb⟩|⟨ad2,e,hb⟩)
 ·have h:=m.box
  rw[<- hB,hX] at h
  injection h with h
  injection h with _ h
  exact Ex.ne Xb 47 (by decide) h
 ·exact hne m.c.s (by decide) ad2 e hb
 ·exact hne m.c.h (by decide) ad2 e hb
 ·exact hne m.c.f (by decide) ad2 e hb
 ·exact hne m.c.l (by decide) ad2 e hb
theorem Has.cells{Xb:Ex}{w:World}{B lo X o:Nat}{Z:Nat->Prop}{M:Mm}{cs:Array Value}(h:Has Xb w B lo Z M)(hX:w.heap[X]?=some (.cells cs 47 (0,0)))(vs:List Value):Has Xb (w.setCells X o vs) B lo Z M:=by
 obtain⟨aS,aH,aF,aL,cS,cH,cF,cL,m,hf⟩:=h
 exact⟨aS,aH,aF,aL,cS,cH,cF,cL,m.same (by rw[setCells_size];exact Nat.le_refl _) (fun k _ hk=>Ae (fun e=>m.b1q hX (by rw[<- e];exact hk)) _ _ _),hf⟩
set_option maxHeartbeats 1600000 in
theorem a7k{Xb:Ex}(M:Mm)(B lo:Nat)(Z:Nat->Prop)(g cT lo2 i:Nat)(l:List (Tk × TkV))(w:World)(H:Has Xb w B lo Z M)(hM:Ok M)(T:Ce w lo2 g cT l)(hi:i<l.length)(ap:∀ k,Z k->¬ TB g l k)(hsl:∀ a∈l[i].1.held,Be M a=true)(kz:∀ p∈l,∀ a,p.2.aK=some a->a.block<w.heap.size)(zz:∀ k,Z k->k<w.heap.size) :
  Calls Tryz.prog 162 #[.pointer (some ⟨B,0,none⟩),.pointer (some ⟨g,i*16,none⟩)] w (Qe Xb w B lo Z lo2 g cT l i (if l[i].1.f.c.slot∈l[i].1.held then Ec M l[i].1.f.c.slot else M) (Af l[i].1.f 0) (l[i].1.held.erase l[i].1.f.c.slot)):=by
 have hpi:=List.getElem_mem hi
 have hgz:=T.glo.2
 obtain⟨oz,hoz⟩:∃ o:Obj,o=.cells #[O J 0,O J 0,O J 0,O J 0,O J 0,O J 0,O J 0,O J 0,O J 0,O J 0,O J 0,Y none 0 0,.bool false,O J 0] 47:=⟨_,rfl⟩
 have b0:Below w.heap.size w (w.alloc oz):=Ad w oz
 have HZ0:Hid ((w.alloc oz).heap[w.heap.size]?=some oz):=heap_alloc_new w oz
 have HT0:Hid (Ce (w.alloc oz) lo2 g cT l):=T.below b0
 have HH0:Hid (Has Xb (w.alloc oz) B lo Z M):=H.below b0
 obtain⟨x,hx⟩:∃ x,x=l[i].1.f.c.slot:=⟨_,rfl⟩
 obtain⟨hd,hhd⟩:∃ hd,hd=l[i].1.held:=⟨_,rfl⟩
 obtain⟨aD,haD⟩:∃ a,a=l[i].2.aH:=⟨_,rfl⟩
 obtain⟨cD,hcD⟩:∃ a,a=l[i].2.cH:=⟨_,rfl⟩
 have c6:w.cell? ⟨g,i*16+6,none⟩=some (O J x):=by rw[hx];exact T.cell (q:=6) hi (by decide)
 have HX:Hid (x=l[i].1.f.c.slot):=hx
 have HD:Hid (hd=l[i].1.held):=hhd
 have HaD:Hid (aD=l[i].2.aH):=haD
 have HcD:Hid (cD=l[i].2.cH):=hcD
 have HTc:Hid (∀ W:World,Ce W lo2 g cT l->W.cell? ⟨g,i*16+15,none⟩=some (Y aD hd.length cD)/\W.frozen? ⟨g,i*16+15,none⟩=false):=fun W TW=>⟨by rw[hhd,haD,hcD];exact(TW.b0z hi).1,(TW.b0z hi).2⟩
 have HIx:Hid (Calls Tryz.prog 78 #[Y aD hd.length cD,O J x] (w.alloc oz) fun e w'=>∃ i:Int,e=.returned (O J i)/\Uz hd x i/\(w.alloc oz)=w'):=index_first aD cD hd x _ (by rw[haD,hcD,hhd];exact HT0.out.b7g.held _ hpi)
 have e15:=(HTc.out w T).1
 have HAp:Hid (∀ k,Z k->¬ TB g l k):=ap
 have HSl:Hid (∀ a∈hd,Be M a=true):=by rw[hhd];exact hsl
 rw[<- hx,<- hhd]
 have HF0:Hid (Fine w (w.alloc oz) (fun k=>Z k\/TB g l k)):=.of_below _ b0
 have HTz:Hid (∀ (q:Tk × TkV),q.2.aK=l[i].2.aK->(∀ a,q.2.aH=some a->a.block<w.heap.size)->∀ k,w.heap.size<=k->¬ TB g (l.set i q) k):=fun q hq1 hq2 k hk htb=>by
  rcases htb with rfl|⟨p,hp,a,ha,rfl⟩|⟨p,hp,a,ha,rfl⟩
  ·omega
  ·rcases Kw hi hp with rfl|h
   ·have:=hq2 a ha;omega
   ·have:=(T.hlo h ha).2;omega
  ·rcases Kw hi hp with rfl|h
   ·rw[hq1] at ha;have:=kz _ hpi a ha;omega
   ·have:=kz p h a ha;omega
 have HTD:Hid (∀ a,aD=some a->a.block<w.heap.size):=fun a ha=>by rw[haD] at ha;exact(T.hlo hpi ha).2
 obtain⟨M0,hM0⟩:∃ M0,M0=if x∈hd then Ec M x else M:=⟨_,rfl⟩
 obtain⟨h1,hh1⟩:∃ h1,h1=hd.erase x:=⟨_,rfl⟩
 rw[<- hM0,<- hh1]
 have HM0:Hid (M0=if x∈hd then Ec M x else M):=hM0
 have HH1:Hid (h1=hd.erase x):=hh1
 have HZz:Hid (∀ k,Z k->k<w.heap.size):=zz
 have HDj:Hid (∀ gh,aD=some ⟨gh,0,none⟩->TB g l gh/\gh≠g):=fun gh e=>by
  have e':l[i].2.aH=some ⟨gh,0,none⟩:=by rw[<- haD];exact e
  exact⟨.inr (.inl ⟨_,hpi,_,e',rfl⟩),T.hg hpi e'⟩
 have zw0:(w.alloc oz).heap.size=w.heap.size+1:=by simp
 clear H T ap hsl hhd haD hcD hx hM0 hh1 kz zz
 go_enter Tryz.func162,Tryz.ntmps162
 go_wp2_with fail
 rw[<- hoz]
 generalize w.alloc oz=W0 at *
 subst hoz
 refine HIx.out.mono ?_
 rintro e w0' ⟨ix,rfl,hfi,rfl⟩
 clear HIx c6 e15
 rcases hfi with ⟨rfl,hnot⟩|⟨k,hk,rfl,hkx,hfst⟩
 ·have e1:h1=hd:=HH1.out.trans (List.erase_of_not_mem hnot)
  have e2:M0=M:=by have:=HM0.out;rw[if_neg hnot] at this;exact this
  clear hnot HM0 HH1
  obtain⟨a1,ha1⟩:∃ a1,a1=aD:=⟨_,rfl⟩
  obtain⟨c1,hc1⟩:∃ c1,c1=cD:=⟨_,rfl⟩
  have HA1:Hid (a1=l[i].2.aH):=ha1.trans HaD.out
  have HC1:Hid (c1=l[i].2.cH):=hc1.trans HcD.out
  have TW:Hid (Ce W0 lo2 g cT (l.set i (⟨l[i].1.busy,l[i].1.f,h1⟩,⟨l[i].2.aK,l[i].2.cK,a1,c1⟩))):=by
   rw[e1,ha1,hc1,HD.out,HaD.out,HcD.out,set_self hi];exact HT0.out
  have HTn:Hid (∀ k,w.heap.size<=k->¬ TB g (l.set i (⟨l[i].1.busy,l[i].1.f,h1⟩,⟨l[i].2.aK,l[i].2.cK,a1,c1⟩)) k):=HTz.out _ rfl (fun a h=>HTD.out a (by rw[<- ha1];exact h))
  have HW:Hid (Has Xb W0 B lo (Up w Z) M0):=by rw[e2];exact HH0.out.mono fun k _ h=>.inl h
  clear e1 e2 ha1 hc1 HT0 HH0
  have FW:Hid _:=HF0
  have ZW:Hid _:=HZ0
  obtain⟨W,hW⟩:∃ W,W=W0:=⟨_,rfl⟩
  rw[<- hW] at TW HW FW ZW ⊢
  clear hW HZ0 HF0
  have hi1:i<(l.set i (⟨l[i].1.busy,l[i].1.f,h1⟩,(⟨l[i].2.aK,l[i].2.cK,a1,c1⟩:TkV))).length:=by rw[List.length_set];exact hi
  have lF:Hid (W.rangeAt g (i*16+1) (l[i].1.f.enc l[i].2.aK l[i].2.cK)):=by
   have h:=TW.out.Qs hi1
   rw[List.getElem_set_self] at h
   exact h
  have HKr:Hid (Ag W l[i].2.aK l[i].2.cK l[i].1.f.keys):=by
   have h:=TW.out.keys _ (List.getElem_mem hi1)
   rw[List.getElem_set_self] at h
   exact h
  go_wp2_with (refine Zz rfl _ rfl rfl lF.out ?_)
  refine(U6 l[i].1.f 0 l[i].2.aK l[i].2.cK W HKr.out).mono ?_
  rintro e w3 ⟨a3,c3,rfl,hk3,hb3⟩
  have HZ3:Hid (w3.heap[w.heap.size]?=_):=(hb3.block _ (lt_of_block ZW.out)).trans ZW.out
  have t3:Hid (w3.there w.heap.size 0 14):=Dn HZ3.out (by simp)
  have HB4:Hid ((w3.setCells w.heap.size 0 ((Af l[i].1.f 0).enc a3 c3)).heap[w.heap.size]?=some (.cells #[O J ((Af l[i].1.f 0).c).kind,O J ((Af l[i].1.f 0).c).a,O J ((Af l[i].1.f 0).c).b,O J ((Af l[i].1.f 0).c).time,O J ((Af l[i].1.f 0).c).bk,O J ((Af l[i].1.f 0).c).slot,O J (Af l[i].1.f 0).pl,O J (Af l[i].1.f 0).cur,O J (Af l[i].1.f 0).prev,O J (Af l[i].1.f 0).slot,O J (Af l[i].1.f 0).n,Y a3 (Af l[i].1.f 0).keys.length c3,.bool (Af l[i].1.f 0).done,O J (Af l[i].1.f 0).e] 47 (0,0))):=D5 HZ3.out rfl
  have zW:=FW.out.size
  have hlt:w.heap.size<W.heap.size:=lt_of_block ZW.out
  have HH4:Hid (Has Xb (w3.setCells w.heap.size 0 ((Af l[i].1.f 0).enc a3 c3)) B lo (Up w Z) M0):=(HW.out.below hb3).cells HZ3.out _
  have HT4:Hid (Ce (w3.setCells w.heap.size 0 ((Af l[i].1.f 0).enc a3 c3)) lo2 g cT _):=(TW.out.below hb3).same fun k hk htb=>Ae (fun e=>HTn.out k (by rw[e];exact Nat.le_refl _) htb) _ _ _
  have HF4:Hid (Fine w (w3.setCells w.heap.size 0 ((Af l[i].1.f 0).enc a3 c3)) (fun k=>Z k\/TB g l k)):=Gw (FW.out.below hb3) (.inr (Nat.le_refl _))
  have HK4:Hid (Ag (w3.setCells w.heap.size 0 ((Af l[i].1.f 0).enc a3 c3)) a3 c3 (Af l[i].1.f 0).keys):=Eu (Ag.own hk3.own HKr.out.max) fun _ ad e _=>Ae (by have:=(hk3.lt ad e).1;omega) _ _ _
  have HA4:Hid (∀ ad,a3=some ad->w.heap.size<=ad.block):=fun ad e=>by have:=(hk3.lt ad e).1;omega
  clear hk3 hb3 lF HKr TW HW FW ZW HZ3 HTn
  go_wp2_with (refine Qz (f:=Af l[i].1.f 0) rfl _ _ rfl rfl rfl t3.out ?_)
  clear t3
  generalize w3.setCells w.heap.size 0 ((Af l[i].1.f 0).enc a3 c3)=W4 at *
  refine bodyPost_ret (results_cell_row Tryz.results162 _ W4 w.heap.size 47 _ (0,0) _ rfl HB4.out Tryz.underlying47 rfl (by kernel_rfl)) rfl ?_
  exact⟨a3,c3,rfl,HK4.out,fun ad e=>.inr (HA4.out ad e),HH4.out,⟨hi,by have h:=HT4.out;rw[HA1.out,HC1.out] at h;exact h⟩,HF4.out⟩
 ·have e1:h1=hd.eraseIdx k:=HH1.out.trans (a0r hk hkx hfst)
  have hxm:x∈hd:=by rw[<- hkx];exact List.getElem_mem hk
  have e2:M0=Ec M x:=by have:=HM0.out;rw[if_pos hxm] at this;exact this
  have HE1:Hid (h1=hd.eraseIdx k):=e1
  have HE2:Hid (M0=Ec M x):=e2
  have HPut:Hid (Calls Tryz.prog 197 #[.pointer (some ⟨B,0,none⟩),O J x] W0 fun e w'=>e=.returned (.bool (decide (Ap M x≠0)))/\Has Xb w' B lo (Up W0 Z) (Ec M x)/\Fine W0 w' Z):=a1l HH0.out hM (HSl.out x hxm)
  clear e1 e2 HM0 HH1 hkx hfst hxm HH0
  have hk0:decide ((0:Int)<=(k:Int))=true:=by simp
  go_wp2_with fail
  refine HPut.out.mono ?_
  rintro e w1 ⟨rfl,hHas,hFine⟩
  have HT1:Hid (Ce w1 lo2 g cT l):=HT0.out.fine hFine HAp.out
  have HZ1:Hid (w1.heap[w.heap.size]?=_):=(hFine.block _ (lt_of_block HZ0.out) (fun h=>by have:=HZz.out _ h;omega)).trans HZ0.out
  have HHs:Hid (Has Xb w1 B lo (Up w Z) (Ec M x)):=hHas.mono fun j _ h=>h.imp id (fun h=>by omega)
  have HF1:Hid (Fine w w1 (fun k=>Z k\/TB g l k)):=HF0.out.trans hFine (fun j _ h=>.inl h)
  have hown:w1.ownsRow lo2 3 1 (Y aD hd.length cD) hd.length (encI hd):=by rw[HaD.out,HcD.out,HD.out];exact HT1.out.held _ hpi
  have hhm:hd.length<=1000:=by rw[HD.out];exact HT1.out.hm _ hpi
  clear hHas hFine HT0 HZ0 HF0 HPut
  obtain⟨gh,cap,hform⟩:=ownsRow_form hown (by omega)
  injection hform with hf1 hf2 hf3
  subst hf3
  clear hf2
  have HaG:Hid (aD=some ⟨gh,0,none⟩):=hf1
  rw[hf1] at hown
  have HDel:Hid (Calls Tryz.prog 198 #[Y (some ⟨gh,0,none⟩) hd.length cD,O J (k:Int),O J ((k:Int)+1)] w1 fun e w'=>e=.returned (Y (some ⟨gh,0,none⟩) (hd.eraseIdx k).length cD)/\w'.ownsRow lo2 3 1 (Y (some ⟨gh,0,none⟩) (hd.eraseIdx k).length cD) (hd.eraseIdx k).length (encI (hd.eraseIdx k))/\Fine w1 w' (fun k=>k=gh)):=by
   have h:=b4m gh cD k (k+1) lo2 hd w1 hown hk rfl hhm
   rw[show (((k+1:Nat)):Int)=(k:Int)+1 by omega] at h
   exact h
  obtain⟨d0,d1⟩:=HTc.out _ HT1.out
  rw[hf1] at d0
  clear hown
  have hwr:IntKind.i64.wrap ((k:Int)+1)=(k:Int)+1:=by rw[IntKind.wrap_i64];omega
  have hgh:=HDj.out gh hf1
  have hghz:gh<w.heap.size:=HTD.out _ hf1
  clear hf1
  go_wp2_with fail
  refine HDel.out.mono ?_
  rintro e w2 ⟨rfl,hown2,hF2⟩
  have T2:Hid (Ce (w2.setCell ⟨g,i*16+15,none⟩ (Y (some ⟨gh,0,none⟩) (hd.eraseIdx k).length cD)) lo2 g cT (l.set i (⟨l[i].1.busy,l[i].1.f,hd.eraseIdx k⟩,⟨l[i].2.aK,l[i].2.cK,some ⟨gh,0,none⟩,cD⟩))):=by
   have hk':k<l[i].1.held.length:=by rw[<- HD.out];exact hk
   have h:=HT1.out.b8q hi hk' (by rw[<- HaD.out];exact HaG.out) HcD.out.symm (by rw[<- HD.out];exact hown2) hF2
   rw[<- HD.out] at h
   exact h
  have hg1:w2.heap[g]?=w1.heap[g]?:=hF2.block g (HT1.out.glo.2) (fun e=>hgh.2 e.symm)
  have e15:w2.cell? ⟨g,i*16+15,none⟩=some (Y (some ⟨gh,0,none⟩) hd.length cD):=(World.cell?_of_block (a:=⟨g,i*16+15,none⟩) hg1).trans d0
  have f15:w2.frozen? ⟨g,i*16+15,none⟩=false:=(World.frozen?_of_block (a:=⟨g,i*16+15,none⟩) hg1).trans d1
  have HHw:Hid (Has Xb (w2.setCell ⟨g,i*16+15,none⟩ (Y (some ⟨gh,0,none⟩) (hd.eraseIdx k).length cD)) B lo (Up w Z) (Ec M x)):=by
   have h:=HHs.out.fine hF2 (fun j _ hj e=>by
    subst e
    rcases hj with h|h
    ·exact HAp.out _ h hgh.1
    ·omega)
   refine h.same (by rw[World.size_setCell];exact Nat.le_refl _) fun j _ hj=>Below.heap_setCell _ _ _ _ ?_
   dsimp only
   rintro rfl
   rcases hj with h|h
   ·exact HAp.out _ h (.inl rfl)
   ·omega
  have HFw:Hid (Fine w (w2.setCell ⟨g,i*16+15,none⟩ (Y (some ⟨gh,0,none⟩) (hd.eraseIdx k).length cD)) (fun k=>Z k\/TB g l k)):=(HF1.out.trans hF2 (fun j _ h=>by subst h;exact .inr hgh.1)).set (.inl (.inr (.inl rfl))) _ _
  have HZw:Hid ((w2.setCell ⟨g,i*16+15,none⟩ (Y (some ⟨gh,0,none⟩) (hd.eraseIdx k).length cD)).heap[w.heap.size]?=_):=(Below.heap_setCell w2 ⟨g,i*16+15,none⟩ _ w.heap.size (by show w.heap.size≠g;omega)).trans ((hF2.block _ (lt_of_block HZ1.out) (by omega)).trans HZ1.out)
  obtain⟨a1,ha1⟩:∃ a1:Option Addr,a1=some ⟨gh,0,none⟩:=⟨_,rfl⟩
  obtain⟨c1,hc1⟩:∃ c1,c1=cD:=⟨_,rfl⟩
  have HA1:Hid (a1=l[i].2.aH):=ha1.trans (HaG.out.symm.trans HaD.out)
  have HC1:Hid (c1=l[i].2.cH):=hc1.trans HcD.out
  obtain⟨W,hW⟩:∃ W,W=w2.setCell ⟨g,i*16+15,none⟩ (Y (some ⟨gh,0,none⟩) (hd.eraseIdx k).length cD):=⟨_,rfl⟩
  rw[<- hW] at T2 HHw HFw HZw
  have TW:Hid (Ce W lo2 g cT (l.set i (⟨l[i].1.busy,l[i].1.f,h1⟩,⟨l[i].2.aK,l[i].2.cK,a1,c1⟩))):=by rw[HE1.out,ha1,hc1];exact T2.out
  have HTn:Hid (∀ k,w.heap.size<=k->¬ TB g (l.set i (⟨l[i].1.busy,l[i].1.f,h1⟩,⟨l[i].2.aK,l[i].2.cK,a1,c1⟩)) k):=HTz.out _ rfl (fun a h=>by rw[ha1] at h;injection h with h;rw[<- h];exact hghz)
  have HW:Hid (Has Xb W B lo (Up w Z) M0):=by rw[HE2.out];exact HHw.out
  have FW:Hid (Fine w W (fun k=>Z k\/TB g l k)):=HFw
  have ZW:Hid (W.heap[w.heap.size]?=_):=HZw
  clear T2 HHw HFw HZw HT1 HZ1 HHs HF1 hown2 hF2 HDel d0 d1 hg1 ha1 hc1
  have hi1:i<(l.set i (⟨l[i].1.busy,l[i].1.f,h1⟩,(⟨l[i].2.aK,l[i].2.cK,a1,c1⟩:TkV))).length:=by rw[List.length_set];exact hi
  have lF:Hid (W.rangeAt g (i*16+1) (l[i].1.f.enc l[i].2.aK l[i].2.cK)):=by
   have h:=TW.out.Qs hi1
   rw[List.getElem_set_self] at h
   exact h
  have HKr:Hid (Ag W l[i].2.aK l[i].2.cK l[i].1.f.keys):=by
   have h:=TW.out.keys _ (List.getElem_mem hi1)
   rw[List.getElem_set_self] at h
   exact h
  have lF2:Hid ((w2.setCell ⟨g,i*16+15,none⟩ (Y (some ⟨gh,0,none⟩) (hd.eraseIdx k).length cD)).rangeAt g (i*16+1) (l[i].1.f.enc l[i].2.aK l[i].2.cK)):=by rw[<- hW];exact lF.out
  go_wp2_with (refine Zz rfl _ rfl rfl lF2.out ?_)
  rw[<- hW]
  clear hW lF2 e15 f15
  refine(U6 l[i].1.f 0 l[i].2.aK l[i].2.cK W HKr.out).mono ?_
  rintro e w3 ⟨a3,c3,rfl,hk3,hb3⟩
  have HZ3:Hid (w3.heap[w.heap.size]?=_):=(hb3.block _ (lt_of_block ZW.out)).trans ZW.out
  have t3:Hid (w3.there w.heap.size 0 14):=Dn HZ3.out (by simp)
  have HB4:Hid ((w3.setCells w.heap.size 0 ((Af l[i].1.f 0).enc a3 c3)).heap[w.heap.size]?=some (.cells #[O J ((Af l[i].1.f 0).c).kind,O J ((Af l[i].1.f 0).c).a,O J ((Af l[i].1.f 0).c).b,O J ((Af l[i].1.f 0).c).time,O J ((Af l[i].1.f 0).c).bk,O J ((Af l[i].1.f 0).c).slot,O J (Af l[i].1.f 0).pl,O J (Af l[i].1.f 0).cur,O J (Af l[i].1.f 0).prev,O J (Af l[i].1.f 0).slot,O J (Af l[i].1.f 0).n,Y a3 (Af l[i].1.f 0).keys.length c3,.bool (Af l[i].1.f 0).done,O J (Af l[i].1.f 0).e] 47 (0,0))):=D5 HZ3.out rfl
  have zW:=FW.out.size
  have hlt:w.heap.size<W.heap.size:=lt_of_block ZW.out
  have HH4:Hid (Has Xb (w3.setCells w.heap.size 0 ((Af l[i].1.f 0).enc a3 c3)) B lo (Up w Z) M0):=(HW.out.below hb3).cells HZ3.out _
  have HT4:Hid (Ce (w3.setCells w.heap.size 0 ((Af l[i].1.f 0).enc a3 c3)) lo2 g cT _):=(TW.out.below hb3).same fun k hk htb=>Ae (fun e=>HTn.out k (by rw[e];exact Nat.le_refl _) htb) _ _ _
  have HF4:Hid (Fine w (w3.setCells w.heap.size 0 ((Af l[i].1.f 0).enc a3 c3)) (fun k=>Z k\/TB g l k)):=Gw (FW.out.below hb3) (.inr (Nat.le_refl _))
  have HK4:Hid (Ag (w3.setCells w.heap.size 0 ((Af l[i].1.f 0).enc a3 c3)) a3 c3 (Af l[i].1.f 0).keys):=Eu (Ag.own hk3.own HKr.out.max) fun _ ad e _=>Ae (by have:=(hk3.lt ad e).1;omega) _ _ _
  have HA4:Hid (∀ ad,a3=some ad->w.heap.size<=ad.block):=fun ad e=>by have:=(hk3.lt ad e).1;omega
  clear hk3 hb3 lF HKr TW HW FW ZW HZ3 HTn
  go_wp2_with (refine Qz (f:=Af l[i].1.f 0) rfl _ _ rfl rfl rfl t3.out ?_)
  clear t3
  generalize w3.setCells w.heap.size 0 ((Af l[i].1.f 0).enc a3 c3)=W4 at *
  refine bodyPost_ret (results_cell_row Tryz.results162 _ W4 w.heap.size 47 _ (0,0) _ rfl HB4.out Tryz.underlying47 rfl (by kernel_rfl)) rfl ?_
  exact⟨a3,c3,rfl,HK4.out,fun ad e=>.inr (HA4.out ad e),HH4.out,⟨hi,by have h:=HT4.out;rw[HA1.out,HC1.out] at h;exact h⟩,HF4.out⟩
end
end Go.Proofs.YthhgoenomehobaaGreat.mm
