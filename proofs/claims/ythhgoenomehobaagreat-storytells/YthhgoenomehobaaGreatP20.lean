/- Parts. -/
import Derived.Test.YthhgoenomehobaaGreatP14
import Derived.Test.YthhgoenomehobaaGreatP12
import Derived.Deep.MidRow
namespace Go.Proofs.YthhgoenomehobaaGreat.mm
open World renaming setCells → jZ
open Nat renaming zero_le → aG, le_trans → dQ
open List renaming getElem_mem → bJ, length_set → dZ, take_succ_eq_append_getElem → aV, length_take → jO, length_append → gU, length_drop → jP, drop_of_length_le → aY, length_cons → bV, drop → jQ, take_of_length_le → jR, take_length → jS, set_eq_take_append_cons_drop → jT, take_append_of_le_length → jU, length_eraseIdx_of_lt → jV, length_singleton → jW, flatMap_cons → jX, take_append → jY
open RowKit.Below renaming heap_alloc → fU, heap_setCell → dM
open Joins renaming cell_of_block → dN
open Go renaming lt_of_block → fC, heap_alloc_new → fP, Value → dU, Calls → aI, ownsRow_setCell_other → dV, callFunc → jI, TypeId → dX, wpList → jJ, wpList_load_mid → jK, Operand → jL, wpList_store_mid → jM, undef → Uz, World → Wq
open Tryz
set_option maxRecDepth 100000
set_option linter.unusedVariables false
open Value renaming int → O, slice → Y
open IntKind renaming i64 → J
open Tryz renaming prog → Pg
open ChangeShapes WideShapes ChangeAt RowKit Joins
set_option maxHeartbeats 0
variable {α:Type}{bn:Array Oper}{nz:List Oper}{op:Oper}{m:Mm}{a:Act}{w w1 w':Wq}{lo size n uP g cT:Nat}{W:Wd}{Q:Exit->Act->Wq->Prop}{x0:Pk}{v0 v1 v2 v3 v4 v5:dU}{t:Tk}{f:Fr}{aK:Option Addr}{cK:Nat}{c:Cl}(M:Mm)(aS aH aF aL:Option Addr)(cS cH cF cL F:Nat)(qy:Array dU)(p:Int->Bool)(ao:Option Addr)(bg:Nat)(l:List Int)(x:Int){B o:Nat}{e:dX}{v:dU}{xs:List dU}{cs:Array dU}
structure TkV where
 aK:Option Addr
 cK:Nat
 aH:Option Addr
 cH:Nat
def Fr.enc(f:Fr)(aK:Option Addr)(cK:Nat):List dU :=
 [O J f.c.k,O J f.c.a,O J f.c.b,O J f.c.t,O J f.c.q,O J f.c.h,O J f.l,O J f.u,O J f.p,O J f.h,O J f.n,Y aK f.t.length cK,.bool f.d,O J f.e]
def Tk.enc(t:Tk)(p:TkV):List dU:=.bool t.b :: (t.f.enc p.aK p.cK ++ [Y p.aH t.u.length p.cH])
theorem Fr.Ig(f:Fr)(aK:Option Addr)(cK:Nat):(f.enc aK cK).length=14:=rfl
theorem Tk.Ig(t:Tk)(p:TkV):(t.enc p).length=16:=rfl
structure Gl(w:Wq)(ao:Option Addr)(bg:Nat)(l:List (Tk × TkV)):Prop where
 le:l.length<=bg
 max:l.length*160<=140737488351232
 nil:ao=none->bg=0
 at_:l.length=0\/∃ b o,ao=some ⟨b,o,none⟩/\∀ i (h:i<l.length) q,q<16->w.cell? ⟨b,o+i*16+q,none⟩=(l[i].1.enc l[i].2)[q]?
 t:∀ p∈l,Az w p.2.aK p.2.cK p.1.f.t
 u:∀ p∈l,Dk w p.2.aH p.2.cH p.1.u
theorem a2j(w:Wq):Gl w none 0 []:=⟨by decide,by decide,fun _=>rfl,.inl rfl,(fun _ h=>by cases h),(fun _ h=>by cases h)⟩
theorem Sv(t:Tk)(p:TkV){q:Nat}(h:q<16):∃ v,(t.enc p)[q]?=some v:=⟨_,List.getElem?_eq_getElem (by rw[Tk.Ig];exact h)⟩
theorem Gl.below{ao:Option Addr}{bg:Nat}{l:List (Tk × TkV)}(r:Gl w ao bg l)(hb:Below w.heap.size w w'):Gl w' ao bg l:=by
 refine⟨r.le,r.max,r.nil,?_,fun p hp=>(r.t p hp).below hb,fun p hp=>(r.u p hp).below hb⟩
 rcases r.at_ with h|⟨b,o,h,hc⟩
 ·exact .inl h
 ·refine .inr ⟨b,o,h,fun i hi q hq=>?_⟩
  obtain⟨v,hv⟩:=Sv l[i].1 l[i].2 hq
  have c:=(hc i hi q hq).trans hv
  exact((Ce hb).1 _ _ (cell_lt c)).trans (hc i hi q hq)
theorem Gl.cells{b o bg:Nat}{l:List (Tk × TkV)}(r:Gl w (some ⟨b,o,none⟩) bg l){i:Nat}(h:i<l.length) :
  w.cell? ⟨b,o+i*16,none⟩=some (.bool l[i].1.b)/\w.cell? ⟨b,o+i*16+1,none⟩=some (O J l[i].1.f.c.k)/\w.cell? ⟨b,o+i*16+2,none⟩=some (O J l[i].1.f.c.a) /\
  w.cell? ⟨b,o+i*16+3,none⟩=some (O J l[i].1.f.c.b)/\w.cell? ⟨b,o+i*16+4,none⟩=some (O J l[i].1.f.c.t)/\w.cell? ⟨b,o+i*16+5,none⟩=some (O J l[i].1.f.c.q) /\
  w.cell? ⟨b,o+i*16+6,none⟩=some (O J l[i].1.f.c.h)/\w.cell? ⟨b,o+i*16+7,none⟩=some (O J l[i].1.f.l)/\w.cell? ⟨b,o+i*16+8,none⟩=some (O J l[i].1.f.u) /\
  w.cell? ⟨b,o+i*16+9,none⟩=some (O J l[i].1.f.p)/\w.cell? ⟨b,o+i*16+10,none⟩=some (O J l[i].1.f.h)/\w.cell? ⟨b,o+i*16+11,none⟩=some (O J l[i].1.f.n) /\
  w.cell? ⟨b,o+i*16+12,none⟩=some (Y l[i].2.aK l[i].1.f.t.length l[i].2.cK)/\w.cell? ⟨b,o+i*16+13,none⟩=some (.bool l[i].1.f.d)/\w.cell? ⟨b,o+i*16+14,none⟩=some (O J l[i].1.f.e) /\
  w.cell? ⟨b,o+i*16+15,none⟩=some (Y l[i].2.aH l[i].1.u.length l[i].2.cH):=by
 rcases r.at_ with h0|⟨b',o',e,hc⟩
 ·omega
 injection e with e
 injection e with e1 e2
 subst e1 e2
 have c:=hc i h
 exact⟨c 0 (by omega),c 1 (by omega),c 2 (by omega),c 3 (by omega),c 4 (by omega),c 5 (by omega),c 6 (by omega),c 7 (by omega),c 8 (by omega),c 9 (by omega),c 10 (by omega),c 11 (by omega),c 12 (by omega),c 13 (by omega),c 14 (by omega),c 15 (by omega)⟩
theorem Gl.addr{ao:Option Addr}{bg:Nat}{l:List (Tk × TkV)}(r:Gl w ao bg l)(h:l.length≠0):∃ b o,ao=some ⟨b,o,none⟩:=by
 rcases r.at_ with h0|⟨b,o,e,_⟩
 ·exact absurd h0 h
 ·exact⟨b,o,e⟩
structure THi(lo:Nat)(ao:Option Addr)(l:List (Tk × TkV)):Prop where
 row:∀ ad,ao=some ad->lo<=ad.block
 t:∀ p∈l,∀ ad,p.2.aK=some ad->lo<=ad.block
 u:∀ p∈l,∀ ad,p.2.aH=some ad->lo<=ad.block
theorem THi.mono{ao:Option Addr}{l:List (Tk × TkV)}(h:THi lo ao l)(hl:uP<=lo):THi uP ao l :=
 ⟨fun a e=>dQ hl (h.row a e),fun p hp a e=>dQ hl (h.t p hp a e),fun p hp a e=>dQ hl (h.u p hp a e)⟩
def Di(lo:Nat)(w:Wq)(v:dU)(W:Wd):Prop :=
 ∃ aS aH aF aL cS cH cF cL aT cT l,v=.agg #[Y aS W.m.s.length cS,Y aH W.m.h.length cH,Y aF W.m.f.length cF,Y aL W.m.l.length cL,O J W.m.w,Y aT W.t.length cT] /\
  At w aS aH aF aL cS cH cF cL W.m/\Hi4 lo aS aH aF aL/\W.t=l.map (·.1)/\Gl w aT cT l/\THi lo aT l
theorem Di.below{w w':Wq}{v:dU}{W:Wd}(h:Di lo w v W)(hb:Below w.heap.size w w'):Di lo w' v W:=by
 obtain⟨aS,aH,aF,aL,cS,cH,cF,cL,aT,cT,l,e,A,hi,el,r,th⟩:=h
 exact⟨aS,aH,aF,aL,cS,cH,cF,cL,aT,cT,l,e,A.below hb,hi,el,r.below hb,th⟩
theorem Di.mono{w:Wq}{v:dU}{W:Wd}(h:Di lo w v W)(hl:uP<=lo):Di uP w v W:=by
 obtain⟨aS,aH,aF,aL,cS,cH,cF,cL,aT,cT,l,e,A,hi,el,r,th⟩:=h
 exact⟨aS,aH,aF,aL,cS,cH,cF,cL,aT,cT,l,e,A,hi.mono hl,el,r,th.mono hl⟩
def hdE(m:Mm)(a:Int):Int:=if Dp m a then 0 else 5
def tkE(m:Mm)(t:Tk):Int :=
 if 100<t.u.length then 2 else if Ap (hdE m) t.u≠0 then Ap (hdE m) t.u else if t.b then frE m.s.length m.h.length t.f else 0
def wE(W:Wd):Int:=if chk W.m≠0 then chk W.m else if W.t.length<1\/5<W.t.length then 3 else Ap (tkE W.m) W.t
theorem b2q(h:chk W.m≠0):wE W=chk W.m:=by unfold wE;rw[af h]
theorem a6a(h:chk W.m=0)(hn:W.t.length<1\/5<W.t.length):wE W=3:=by unfold wE;rw[ae (by simpa using h),af hn]
theorem a5z(h:chk W.m=0)(hn:¬ (W.t.length<1\/5<W.t.length)):wE W=Ap (tkE W.m) W.t:=by unfold wE;rw[ae (by simpa using h),ae hn]
theorem Qx{α β:Type}(f:β->Int)(g:α->β):∀ l:List α,Ap f (l.map g)=Ap (fun x=>f (g x)) l
 | []=>rfl
 | x :: l=>by simp only[List.map_cons,Ap];rw[Qx f g l]
theorem Xx(h:100<t.u.length):tkE m t=2:=by unfold tkE;rw[af h]
theorem Xv(h:¬ 100<t.u.length)(he:Ap (hdE m) t.u=5):tkE m t=5:=by unfold tkE;rw[ae h,he];rfl
theorem a2h(h:¬ 100<t.u.length)(he:Ap (hdE m) t.u=0)(hb:t.b=true):tkE m t=frE m.s.length m.h.length t.f:=by
 unfold tkE;rw[ae h,he,ae (by simp),af hb]
theorem a2i(h:¬ 100<t.u.length)(he:Ap (hdE m) t.u=0)(hb:t.b=false):tkE m t=0:=by
 unfold tkE;rw[ae h,he,ae (by simp),ae (by simp[hb])]
theorem Ko:wE W=0 ↔ chk W.m=0/\1<=W.t.length/\W.t.length<=5/\∀ t∈W.t,tkE W.m t=0:=by
 unfold wE
 by_cases h:chk W.m=0
 ·rw[ae (by simpa using h)]
  by_cases hn:W.t.length<1\/5<W.t.length
  ·rw[af hn]
   constructor
   ·intro h;cases h
   ·rintro ⟨_,h1,h2,_⟩;omega
  ·rw[ae hn,Gv]
   exact⟨fun h'=>⟨h,by omega,by omega,h'⟩,fun h'=>h'.2.2.2⟩
 ·rw[af h]
  exact⟨fun h'=>absurd h' h,fun h'=>absurd h'.1 h⟩
theorem Xc{l:List Int}:Ap (hdE m) l=0 ↔ ∀ a∈l,Dp m a=true:=by
 rw[Gv]
 constructor
 ·intro h a ha
  have:=h a ha
  unfold hdE at this
  cases hs:Dp m a
  ·rw[hs] at this;cases this
  ·rfl
 ·intro h a ha
  unfold hdE
  rw[h a ha];rfl
theorem Po:tkE m t=0 ↔ t.u.length<=100/\(∀ a∈t.u,Dp m a=true)/\(t.b=true->frE m.s.length m.h.length t.f=0):=by
 unfold tkE
 by_cases h:100<t.u.length
 ·rw[af h]
  exact⟨fun h'=>(by cases h'),fun h'=>absurd h'.1 (by omega)⟩
 ·rw[ae h]
  by_cases he:Ap (hdE m) t.u=0
  ·rw[he,ae (by simp)]
   cases hb:t.b
   ·exact⟨fun _=>⟨by omega,Xc.1 he,(fun h=>by cases h)⟩,fun _=>rfl⟩
   ·exact⟨fun h'=>⟨by omega,Xc.1 he,fun _=>h'⟩,fun h'=>h'.2.2 rfl⟩
  ·rw[af he]
   exact⟨fun h'=>absurd h' he,fun h'=>absurd (Xc.2 h'.2.1) he⟩
theorem Bh{v0 v1 v2 v3 v4 v5:dU}{t:dX}(h:w.heap[B]?=some (.cells #[v0,v1,v2,v3,v4,v5] t (0,0))) :
  w.cell? ⟨B,0,none⟩=some v0/\w.cell? ⟨B,1,none⟩=some v1/\w.cell? ⟨B,2,none⟩=some v2/\w.cell? ⟨B,3,none⟩=some v3/\w.cell? ⟨B,4,none⟩=some v4/\w.cell? ⟨B,5,none⟩=some v5/\B<w.heap.size :=
 ⟨by rw[dN h];rfl,by rw[dN h];rfl,by rw[dN h];rfl,by rw[dN h];rfl,by rw[dN h];rfl,by rw[dN h];rfl,fC h⟩
theorem a2g{v0 v1 v2 v3 v4 v5 v6 v7 v8 v9 v10 v11 v12 v13 zK xY:dU}{t:dX}(h:w.heap[B]?=some (.cells #[v0,v1,v2,v3,v4,v5,v6,v7,v8,v9,v10,v11,v12,v13,zK,xY] t (0,0))) :
  w.cell? ⟨B,0,none⟩=some v0/\w.cell? ⟨B,1,none⟩=some v1/\w.cell? ⟨B,2,none⟩=some v2/\w.cell? ⟨B,3,none⟩=some v3/\w.cell? ⟨B,4,none⟩=some v4/\w.cell? ⟨B,5,none⟩=some v5 /\
  w.cell? ⟨B,6,none⟩=some v6/\w.cell? ⟨B,7,none⟩=some v7/\w.cell? ⟨B,8,none⟩=some v8/\w.cell? ⟨B,9,none⟩=some v9/\w.cell? ⟨B,10,none⟩=some v10/\w.cell? ⟨B,11,none⟩=some v11 /\
  w.cell? ⟨B,12,none⟩=some v12/\w.cell? ⟨B,13,none⟩=some v13/\w.cell? ⟨B,14,none⟩=some zK/\w.cell? ⟨B,15,none⟩=some xY/\B<w.heap.size :=
 ⟨by rw[dN h];rfl,by rw[dN h];rfl,by rw[dN h];rfl,by rw[dN h];rfl,by rw[dN h];rfl,by rw[dN h];rfl,by rw[dN h];rfl,by rw[dN h];rfl,by rw[dN h];rfl,by rw[dN h];rfl,by rw[dN h];rfl,by rw[dN h];rfl,by rw[dN h];rfl,by rw[dN h];rfl,by rw[dN h];rfl,by rw[dN h];rfl,fC h⟩
theorem Aq{t:dX}{fr:Nat × Nat}{vs:List dU}(h:w.heap[B]?=some (.cells cs t fr))(e:(cs.extract o (o+vs.length)).toList=vs):w.rangeAt B o vs:=by
 have:=World.rangeAt_of_block h o vs.length
 rw[e] at this
 exact this
theorem Be{n:Nat}{cs:Array dU}{t:dX}(h:w.heap[B]?=some (.cells cs t (0,0)))(e:o+n<=cs.size):w.there B o n:=fun j hj=>by
 refine⟨?_,unfrozen_of_block h _⟩
 rw[dN h]
 simp;omega
theorem Ed{n:Nat}{vs:List dU}(h:w.rangeAt B o vs)(hb:Below n w w')(hB:B<n):w'.rangeAt B o vs:=fun j v hv=>((Ce hb).1 _ _ hB).trans (h j v hv)
theorem Gl.range{b o bg:Nat}{l:List (Tk × TkV)}(r:Gl w (some ⟨b,o,none⟩) bg l){i:Nat}(h:i<l.length):w.rangeAt b (o+i*16) (l[i].1.enc l[i].2):=fun j v hv=>by
 have hj:j<16:=by
  have:=(List.getElem?_eq_some_iff.1 hv).1
  rwa [Tk.Ig] at this
 rcases r.at_ with h0|⟨b',o',e,hc⟩
 ·omega
 injection e with e
 injection e with e1 e2
 subst e1 e2
 exact(hc i h j hj).trans hv
theorem a2r{p:TkV}{B o:Nat}(rY:op.guard=none)(x:jL)(ho:op.op=.load 49 x)(hx:a.eval x=.pointer (some ⟨B,o,none⟩))(h:w.rangeAt B o (t.enc p))(K:jJ Pg bn Q nz (a.put op.dst (.agg #[.bool t.b,O J t.f.c.k,O J t.f.c.a,O J t.f.c.b,O J t.f.c.t,O J t.f.c.q,O J t.f.c.h,O J t.f.l,O J t.f.u,O J t.f.p,O J t.f.h,O J t.f.n,Y p.aK t.f.t.length p.cK,.bool t.f.d,O J t.f.e,Y p.aH t.u.length p.cH])) w):jJ Pg bn Q (op :: nz) a w :=
 jK rY 49 x ho B o hx (t.enc p) _ h underlying49 rfl (by kernel_rfl) K
theorem Xy(rY:op.guard=none)(x:jL)(ho:op.op=.load 47 x)(hx:a.eval x=.pointer (some ⟨B,o,none⟩))(h:w.rangeAt B o (f.enc aK cK))(K:jJ Pg bn Q nz (a.put op.dst (.agg #[O J f.c.k,O J f.c.a,O J f.c.b,O J f.c.t,O J f.c.q,O J f.c.h,O J f.l,O J f.u,O J f.p,O J f.h,O J f.n,Y aK f.t.length cK,.bool f.d,O J f.e])) w):jJ Pg bn Q (op :: nz) a w :=
 jK rY 47 x ho B o hx (f.enc aK cK) _ h underlying47 rfl (by kernel_rfl) K
theorem F8(rY:op.guard=none)(x:jL)(ho:op.op=.load 28 x)(hx:a.eval x=.pointer (some ⟨B,o,none⟩))(h:w.rangeAt B o [v0,v1,v2,v3,v4,v5])(K:jJ Pg bn Q nz (a.put op.dst (.agg #[v0,v1,v2,v3,v4,v5])) w):jJ Pg bn Q (op :: nz) a w :=
 jK rY 28 x ho B o hx [v0,v1,v2,v3,v4,v5] _ h underlying28 rfl (by kernel_rfl) K
theorem a4z(rY:op.guard=none)(x:jL)(ho:op.op=.load 25 x)(hx:a.eval x=.pointer (some ⟨B,o,none⟩))(h:w.rangeAt B o [v0,v1,v2,v3,v4])(K:jJ Pg bn Q nz (a.put op.dst (.agg #[v0,v1,v2,v3,v4])) w):jJ Pg bn Q (op :: nz) a w :=
 jK rY 25 x ho B o hx [v0,v1,v2,v3,v4] _ h underlying25 rfl (by kernel_rfl) K
theorem b6x(rY:op.guard=none)(x:jL)(ho:op.op=.load 32 x)(hx:a.eval x=.pointer (some ⟨B,o,none⟩))(h:w.rangeAt B o [O J c.k,O J c.a,O J c.b,O J c.t,O J c.q,O J c.h])(K:jJ Pg bn Q nz (a.put op.dst (.agg #[O J c.k,O J c.a,O J c.b,O J c.t,O J c.q,O J c.h])) w):jJ Pg bn Q (op :: nz) a w :=
 jK rY 32 x ho B o hx [O J c.k,O J c.a,O J c.b,O J c.t,O J c.q,O J c.h] _ h underlying32 rfl (by kernel_rfl) K
theorem Vl(rY:op.guard=none)(x:jL)(ho:op.op=.load 34 x)(hx:a.eval x=.pointer (some ⟨B,o,none⟩))(h:w.rangeAt B o [O J x0.s,.bool x0.step,.bool x0.tick,O J x0.c.k,O J x0.c.a,O J x0.c.b,O J x0.c.t,O J x0.c.q,O J x0.c.h])(K:jJ Pg bn Q nz (a.put op.dst (.agg #[O J x0.s,.bool x0.step,.bool x0.tick,O J x0.c.k,O J x0.c.a,O J x0.c.b,O J x0.c.t,O J x0.c.q,O J x0.c.h])) w):jJ Pg bn Q (op :: nz) a w :=
 jK rY 34 x ho B o hx [O J x0.s,.bool x0.step,.bool x0.tick,O J x0.c.k,O J x0.c.a,O J x0.c.b,O J x0.c.t,O J x0.c.q,O J x0.c.h] _ h underlying34 rfl (by kernel_rfl) K
theorem Bl(rY:op.guard=none)(x y:jL)(ho:op.op=.store 47 x y)(hx:a.eval x=.pointer (some ⟨B,o,none⟩))(hy:a.eval y=.agg #[O J f.c.k,O J f.c.a,O J f.c.b,O J f.c.t,O J f.c.q,O J f.c.h,O J f.l,O J f.u,O J f.p,O J f.h,O J f.n,Y aK f.t.length cK,.bool f.d,O J f.e])(h:w.there B o 14)(K:jJ Pg bn Q nz (a.put op.dst Uz) (w.setCells B o (f.enc aK cK))):jJ Pg bn Q (op :: nz) a w :=
 jM rY 47 x y ho B o #[O J f.c.k,O J f.c.a,O J f.c.b,O J f.c.t,O J f.c.q,O J f.c.h,O J f.l,O J f.u,O J f.p,O J f.h,O J f.n,Y aK f.t.length cK,.bool f.d,O J f.e] hx hy h (by kernel_rfl) (by kernel_rfl) K
theorem Iu(rY:op.guard=none)(x y:jL)(ho:op.op=.store 28 x y)(hx:a.eval x=.pointer (some ⟨B,o,none⟩))(hy:a.eval y=.agg #[v0,v1,v2,v3,v4,v5])(h:w.there B o 6)(h1:(#[v0,v1,v2,v3,v4,v5].all (·.oneCell'))=true)(K:jJ Pg bn Q nz (a.put op.dst Uz) (w.setCells B o [v0,v1,v2,v3,v4,v5])):jJ Pg bn Q (op :: nz) a w :=
 jM rY 28 x y ho B o #[v0,v1,v2,v3,v4,v5] hx hy h (by kernel_rfl) h1 K
theorem ws_5(rY:op.guard=none)(x y:jL)(ho:op.op=.store 25 x y)(hx:a.eval x=.pointer (some ⟨B,o,none⟩))(hy:a.eval y=.agg #[v0,v1,v2,v3,v4])(h:w.there B o 5)(h1:(#[v0,v1,v2,v3,v4].all (·.oneCell'))=true)(K:jJ Pg bn Q nz (a.put op.dst Uz) (w.setCells B o [v0,v1,v2,v3,v4])):jJ Pg bn Q (op :: nz) a w :=
 jM rY 25 x y ho B o #[v0,v1,v2,v3,v4] hx hy h (by kernel_rfl) h1 K
theorem Af{B k:Nat}(h:k≠B):∀ (vs:List dU) (o:Nat) (w:Wq),(w.setCells B o vs).heap[k]?=w.heap[k]?
 | [],_,_=>rfl
 | v :: vs,o,w=>by
  rw[jZ,Af h vs (o+1),dM _ _ _ _ (by dsimp only;exact h)]
theorem setCells_size{B:Nat}:∀ (vs:List dU) (o:Nat) (w:Wq),(w.setCells B o vs).heap.size=w.heap.size
 | [],_,_=>rfl
 | v :: vs,o,w=>by
  rw[jZ,setCells_size vs (o+1),World.size_setCell]
theorem Au{B:Nat}:∀ (vs:List dU) (o:Nat) (w:Wq),(w.setCells B o vs).os=w.os/\(w.setCells B o vs).tape=w.tape/\(w.setCells B o vs).output=w.output
 | [],_,_=>⟨rfl,rfl,rfl⟩
 | v :: vs,o,w=>by
  rw[jZ]
  exact Au vs (o+1) (w.setCell ⟨B,o,none⟩ v)
theorem Ou{f:α->Int}{l:List α}{k:Nat}(h:k<l.length){e E:Int}(he:f l[k]=e)(h0:e≠0)(H:E=Ap f (l.drop k)):E=e:=by
 rw[H,Lr f l k h,he,af h0]
theorem Vp{f:α->Int}{l:List α}{k:Nat}(h:k<l.length){E:Int}(he:f l[k]=0)(H:E=Ap f (l.drop k)):E=Ap f (l.drop (k+1)):=by
 rw[H,Lr f l k h,he,ae (by simp)]
theorem drop_end{f:α->Int}{l:List α}{k:Nat}(h:l.length<=k){E:Int}(H:E=Ap f (l.drop k)):E=0:=by
 rw[H,Iz f l k h]
theorem a6g{l:List Int}{p:Int->Bool}{k:Nat}(hk:k<l.length)(h:(l.take k).any p=false)(h':p l[k]=false):(l.take (k+1)).any p=false:=by
 rw[aV hk,List.any_append,h]
 simp[h']
theorem a9h{p:Int->Bool}{l:List Int}{k:Nat}(h:k<l.length)(hx:p l[k]=true):l.any p=true :=
 List.any_eq_true.2 ⟨_,bJ h,hx⟩
theorem b5v(w:Wq)(jc:Dk w ao bg l)(hF:∀ args W,(jI F args).run Pg W=.ok (.enter F args) W)(hp:∀ (x:Int) W,Below w.heap.size w W->aI Pg F (#[O J x] ++ qy) W fun e W'=>e=.returned (.bool (p x))/\Below W.heap.size W W') :
  aI Pg 84 #[Y ao l.length bg,.func (.func F) #[] qy] w fun e w'=>∃ i:Int,e=.returned (O J i)/\decide (0<=i)=l.any p/\Below w.heap.size w w':=by
 have m1:=jc.max
 have wQ:Qi (Dk w ao bg l):=jc
 have HP:Qi (∀ (x:Int) W,Below w.heap.size w W->aI Pg F (#[O J x] ++ qy) W fun e W'=>e=.returned (.bool (p x))/\Below W.heap.size W W'):=hp
 have DT:Qi (∀ args W,(jI F args).run Pg W=.ok (.enter F args) W):=hF
 clear jc hp hF
 go_enter func84,ntmps84
 go_wp2
 go_loopw [8] (fun i wr=>∃ k:Nat,k<=l.length/\i=O J k/\Qi (Below w.heap.size w wr)/\Qi ((l.take k).any p=false)) (fun i _=>l.length - (intOf i).toNat)
 case atStart=>exact⟨0,aG _,rfl,Below.refl _ _,by show _=_;simp⟩
 case round =>
  obtain⟨k,hk,rfl,HB,HC⟩:=hrel
  by_cases gm:k<l.length
  ·rcases (wQ.o.below HB.o).at_ with h0|⟨bk,ok,rfl,hc⟩
   ·omega
   have c0:=hc k gm
   clear hc
   generalize hy:l[k]=y at c0
   have HX:Qi (l[k]=y):=hy
   clear hy
   go_wp2_with fail
   rw[DT.o]
   refine(HP.o y wr HB.o).mono ?_
   rintro e w1 ⟨rfl,bu⟩
   have iy:Qi (Below w.heap.size w w1):=HB.o.trans (bu.mono HB.o.size)
   clear bu c0
   cases hh:p y
   ·have HH:Qi ((l.take (k+1)).any p=false):=a6g gm HC.o (by rw[HX.o];exact hh)
    go_wp2
    go_roundw
    case rel=>exact⟨k+1,by omega,by go_num,iy,HH⟩
    case measure=>simp[intOf];omega
   ·have HH:Qi (l.any p=true):=a9h gm (by rw[HX.o];exact hh)
    go_wp2
    go_ret
    exact⟨k,rfl,by rw[HH.o];simp,iy.o⟩
  ·have HH:Qi (l.any p=false):=by
    have:=HC.o
    rw[show k=l.length by omega,jS] at this
    exact this
   go_wp2
   go_ret
   exact⟨-1,rfl,by rw[HH.o];rfl,HB.o⟩
theorem a6n(w:Wq)(jc:Dk w ao bg l)(hF:∀ args W,(jI F args).run Pg W=.ok (.enter F args) W)(hp:∀ (x:Int) W,Below w.heap.size w W->aI Pg F (#[O J x] ++ qy) W fun e W'=>e=.returned (.bool (p x))/\Below W.heap.size W W') :
  aI Pg 37 #[Y ao l.length bg,.func (.func F) #[] qy] w fun e w'=>e=.returned (.bool (l.any p))/\Below w.heap.size w w':=by
 have HI:Qi (aI Pg 84 #[Y ao l.length bg,.func (.func F) #[] qy] w fun e w'=>∃ i:Int,e=.returned (O J i)/\decide (0<=i)=l.any p/\Below w.heap.size w w'):=b5v F qy p ao bg l w jc hF hp
 clear jc hF hp
 go_enter func37,ntmps37
 go_wp2_with fail
 refine HI.o.mono ?_
 rintro e w1 ⟨i,rfl,hd,hb⟩
 have HB:Qi (Below w.heap.size w w1):=hb
 have HD:Qi (decide (0<=i)=l.any p):=hd
 clear hb hd
 go_wp2
 go_ret
 exact⟨by rw[<- HD.o];rfl,HB.o⟩
theorem fnCT:∀ args W,(jI 110 args).run Pg W=.ok (.enter 110 args) W:=fun _ _=>by kernel_rfl
theorem litCT(B:Nat)(x:Int)(w:Wq)(hB:w.heap[B]?=some (.cells #[Y aS M.s.length cS,Y aH M.h.length cH,Y aF M.f.length cF,Y aL M.l.length cL,O J M.w] 25 (0,0)))(m1:M.s.length<=9223372036854775807) :
  aI Pg 110 (#[O J x] ++ #[.pointer (some ⟨B,0,none⟩)]) w fun e w'=>e=.returned (.bool (!Dp M x))/\Below w.heap.size w w':=by
 obtain⟨q0,q1,q2,q3,q4,f0,f1,f2,f3,f4,qs⟩:=Aj hB
 have HI:Qi (aI Pg 111 #[Cm aS aH aF aL cS cH cF cL M,O J x] w fun e w'=>e=.returned (.bool (Dp M x))/\Below w.heap.size w w'):=Ep aS aH aF aL M.s.length M.h.length M.f.length M.l.length cS cH cF cL M.w x w m1
 clear hB f0 f1 f2 f3 f4
 generalize Dp M x=b at *
 go_enter func110,ntmps110
 go_wp2_with fail
 refine HI.o.mono ?_
 rintro e w1 ⟨rfl,bu⟩
 clear q0 q1 q2 q3 q4
 go_wp2
 go_ret
 exact⟨rfl,bu⟩
theorem Uw(M:Mm):∀ (l:List Int),Ap (hdE M) l=if l.any (fun x=>!Dp M x) then 5 else 0
 | []=>rfl
 | x :: l=>by
  have ih:=Uw M l
  simp only[Ap,List.any_cons,ih]
  unfold hdE
  by_cases h:Dp M x=true
  ·simp[h]
  ·have h':Dp M x=false:=by simpa using h
   simp[h']
theorem a3b(t:Tk)(p:TkV)(aS aH aF aL:Option Addr)(cS cH cF cL:Nat)(w:Wq)(hr:Dk w p.aH p.cH t.u)(m1:M.s.length<=9223372036854775000)(m2:M.h.length<=9223372036854775000)(m3:t.f.t.length<=9223372036854775807) :
  aI Pg 63 #[Cm aS aH aF aL cS cH cF cL M,.agg #[.bool t.b,O J t.f.c.k,O J t.f.c.a,O J t.f.c.b,O J t.f.c.t,O J t.f.c.q,O J t.f.c.h,O J t.f.l,O J t.f.u,O J t.f.p,O J t.f.h,O J t.f.n,Y p.aK t.f.t.length p.cK,.bool t.f.d,O J t.f.e,Y p.aH t.u.length p.cH]] w fun e w'=>e=.returned (O J (tkE M t))/\Below w.heap.size w w':=by
 unfold Cm
 have m4:=hr.max
 obtain⟨E0,lh⟩:∃ x,x=tkE M t:=⟨_,rfl⟩
 rw[<- lh]
 have lq:Qi (E0=tkE M t):=lh
 clear lh
 obtain⟨ox,jq⟩:∃ o:Obj,o=.cells #[Y aS M.s.length cS,Y aH M.h.length cH,Y aF M.f.length cF,Y aL M.l.length cL,O J M.w] 25:=⟨_,rfl⟩
 obtain⟨oy,uM⟩:∃ o:Obj,o=.cells #[.bool t.b,O J t.f.c.k,O J t.f.c.a,O J t.f.c.b,O J t.f.c.t,O J t.f.c.q,O J t.f.c.h,O J t.f.l,O J t.f.u,O J t.f.p,O J t.f.h,O J t.f.n,Y p.aK t.f.t.length p.cK,.bool t.f.d,O J t.f.e,Y p.aH t.u.length p.cH] 49:=⟨_,rfl⟩
 have b0:Below w.heap.size w ((w.alloc ox).alloc oy):=below_alloc2 w ox oy
 have ni:Qi (((w.alloc ox).alloc oy).heap[w.heap.size]?=some ox):=by show _=_;rw[fU _ _ _ (by simp),fP]
 have tV:Qi (((w.alloc ox).alloc oy).heap[w.heap.size+1]?=some oy):=by
  have:=fP (w.alloc ox) oy
  rwa [show (w.alloc ox).heap.size=w.heap.size+1 by simp] at this
 have PV:Qi (Dk ((w.alloc ox).alloc oy) p.aH p.cH t.u):=hr.below b0
 clear hr
 obtain⟨bz,f,hd⟩:=t
 obtain⟨aK,cK,aD,cD⟩:=p
 dsimp only at *
 go_enter func63,ntmps63
 by_cases hh:100<hd.length
 ·have HV:Qi (E0=2):=lq.o.trans (Xx hh)
  clear ni tV PV
  go_wp2
  go_ret
  exact⟨by rw[HV.o];rfl,by rw[<- jq,<- uM];exact b0⟩
 go_wp2_with fail
 rw[<- jq,<- uM]
 generalize (w.alloc ox).alloc oy=W0 at *
 refine(a6n 110 #[.pointer (some ⟨w.heap.size,0,none⟩)] (fun x=>!Dp M x) aD cD hd W0 PV.o fnCT (fun x W hb=>litCT M aS aH aF aL cS cH cF cL w.heap.size x W ((hb.block _ (fC ni.o)).trans (ni.o.trans (by rw[jq]))) (by omega))).mono ?_
 rintro e w1 ⟨rfl,bu⟩
 have ug:Qi (w1.heap[w.heap.size]?=some ox):=(bu.block _ (fC ni.o)).trans ni.o
 have yx:Qi (w1.heap[w.heap.size+1]?=some oy):=(bu.block _ (fC tV.o)).trans tV.o
 have b1:Below w.heap.size w w1:=b0.trans (bu.mono b0.size)
 have HF:Qi (Ap (hdE M) hd=if hd.any (fun x=>!Dp M x) then 5 else 0):=Uw M hd
 clear ni tV PV b0 bu
 subst jq uM
 generalize hd.any (fun x=>!Dp M x)=bb at *
 cases bb
 rotate_left
 ·have HV:Qi (E0=5):=lq.o.trans (Xv hh (HF.o.trans rfl))
  go_wp2
  go_ret
  exact⟨by rw[HV.o];rfl,b1⟩
 have AO:Qi (Ap (hdE M) hd=0):=HF.o.trans rfl
 clear HF
 have l5:Qi (w1.rangeAt w.heap.size 0 [Y aS M.s.length cS,Y aH M.h.length cH,Y aF M.f.length cF,Y aL M.l.length cL,O J M.w]):=Aq ug.o rfl
 have lF:Qi (w1.rangeAt (w.heap.size+1) 1 (f.enc aK cK)):=Aq yx.o rfl
 have t0:w1.cell? ⟨w.heap.size+1,0,none⟩=some (.bool bz):=by rw[dN yx.o];rfl
 cases bz
 ·have HV:Qi (E0=0):=lq.o.trans (a2i hh AO.o rfl)
  clear l5 lF
  go_wp2
  go_ret
  exact⟨by rw[HV.o];rfl,b1⟩
 ·have HV:Qi (E0=frE M.s.length M.h.length f):=lq.o.trans (a2h hh AO.o rfl)
  go_wp2_with (first|refine a4z rfl _ rfl rfl l5.o ?_|refine Xy rfl _ rfl rfl lF.o ?_)
  refine(a1d aS aH aF aL M.s.length M.h.length M.f.length M.l.length cS cH cF cL M.w f aK cK _ m1 m2 m3).mono ?_
  rintro e w2 ⟨rfl,dm⟩
  rw[<- HV.o]
  have b2:Below w.heap.size w w2:=b1.trans (dm.mono b1.size)
  clear l5 lF t0
  go_wp2
  go_ret
  exact⟨rfl,b2⟩
theorem Yx(n:Int)(w:Wq):aI Pg 60 #[O J n] w fun e w'=>e=.returned (.bool (inB n 1 5))/\w=w':=by
 go_enter func60,ntmps60
 go_wp2_with (go_at_call 85;refine(Ci _ _ _ _).mono ?_;rintro e w1 ⟨rfl,rfl⟩)
 go_ret
 exact⟨rfl,rfl⟩
theorem Qr(l:List (Tk × TkV))(aS aH aF aL:Option Addr)(cS cH cF cL:Nat)(aT:Option Addr)(cT:Nat)(w:Wq)(A:At w aS aH aF aL cS cH cF cL M)(r:Gl w aT cT l) :
  aI Pg 19 #[.agg #[Y aS M.s.length cS,Y aH M.h.length cH,Y aF M.f.length cF,Y aL M.l.length cL,O J M.w,Y aT l.length cT]] w fun e w'=>e=.returned (O J (wE ⟨M,l.map (·.1)⟩))/\Below w.heap.size w w':=by
 have m1:=A.s.max;have m2:=A.h.max;have m3:=r.max
 obtain⟨E0,lh⟩:∃ x,x=wE ⟨M,l.map (·.1)⟩:=⟨_,rfl⟩
 rw[<- lh]
 have lq:Qi (E0=wE ⟨M,l.map (·.1)⟩):=lh
 clear lh
 obtain⟨om,vM⟩:∃ o:Obj,o=.cells #[Y aS M.s.length cS,Y aH M.h.length cH,Y aF M.f.length cF,Y aL M.l.length cL,O J M.w,Y aT l.length cT] 28:=⟨_,rfl⟩
 have b0:Below w.heap.size w (w.alloc om):=A7 w om
 have tq:Qi ((w.alloc om).heap[w.heap.size]?=some om):=fP w om
 have ul:Qi _:=A.below b0
 have xh:Qi (Gl (w.alloc om) aT cT l):=r.below b0
 clear A r
 go_enter func19,ntmps19
 go_wp2_with fail
 rw[<- vM]
 generalize w.alloc om=W0 at *
 refine(check_any M aS aH aF aL cS cH cF cL W0 ul.o).mono ?_
 rintro e w1 ⟨rfl,bu⟩
 have iy:Qi (w1.heap[w.heap.size]?=some om):=(bu.block _ (fC tq.o)).trans tq.o
 have ww:Qi (Gl w1 aT cT l):=xh.o.below bu
 have b1:Below w.heap.size w w1:=b0.trans (bu.mono b0.size)
 clear tq ul xh bu b0
 subst vM
 obtain⟨q0,q1,q2,q3,q4,q5,qs⟩:=Bh iy.o
 by_cases hC:chk M=0
 rotate_left
 ·have h':(chk M != 0)=true:=by simpa using hC
  have HV:Qi (E0=chk M):=lq.o.trans (b2q hC)
  generalize chk M=C at *
  go_wp2
  go_ret
  exact⟨by rw[HV.o];rfl,b1⟩
 have HC:Qi (chk M=0):=hC
 rw[hC]
 clear hC
 have HMB:Qi (∀ W,aI Pg 60 #[O J (l.length:Int)] W fun e w'=>e=.returned (.bool (inB (l.length:Int) 1 5))/\W=w'):=fun W=>Yx _ W
 have vw:inB (l.length:Int) 1 5=true ↔ ¬ (l.length<1\/5<l.length):=by rw[Ar];omega
 have HIN:Qi (inB (l.length:Int) 1 5=true ↔ ¬ (l.length<1\/5<l.length)):=vw
 clear vw
 go_wp2_with fail
 refine(HMB.o _).mono ?_
 rintro e w1' ⟨rfl,rfl⟩
 generalize inB (l.length:Int) 1 5=bb at *
 cases bb
 ·have hn:l.length<1\/5<l.length:=Classical.byContradiction fun h=>by have:=HIN.o.2 h;cases this
  have HV:Qi (E0=3):=lq.o.trans (a6a HC.o (by simpa using hn))
  clear hn
  go_wp2
  go_ret
  exact⟨by rw[HV.o];rfl,b1⟩
 have hn:=HIN.o.1 rfl
 have rW:Qi (E0=Ap (fun p:Tk × TkV=>tkE M p.1) l):=lq.o.trans ((a5z HC.o (by show ¬ ((l.map (·.1)).length<1\/5<(l.map (·.1)).length);rw[List.length_map];exact hn)).trans (Qx _ _ _))
 clear lq HIN
 have rE:¬ l.length=0:=by omega
 have yE:l.length<=5:=by omega
 clear hn
 obtain⟨f,hf⟩:∃ f:Tk × TkV->Int,f=fun p=>tkE M p.1:=⟨_,rfl⟩
 rw[<- hf] at rW
 have HF:Qi (f=fun p:Tk × TkV=>tkE M p.1):=hf
 clear hf
 obtain⟨b,o,rfl⟩:=ww.o.addr (by omega)
 go_wp2
 go_loopw [21] (fun i wr=>∃ k:Nat,k<=l.length/\i=O J k/\Qi (Below w1.heap.size w1 wr)/\Qi (E0=Ap f (l.drop k)))
  (fun i _=>l.length - (intOf i).toNat)
 case atStart=>exact⟨0,aG _,rfl,Below.refl _ _,by show _=_;rw[List.drop_zero];exact rW.o⟩
 case round =>
  obtain⟨k,hk,rfl,xm,HE⟩:=hrel
  clear rW q0 q1 q2 q3 q4 q5
  have bw:Below w.heap.size w wr:=b1.trans (xm.o.mono b1.size)
  by_cases gm:k<l.length
  ·have QA:Qi (wr.heap[w.heap.size]?=_):=(xm.o.block _ qs).trans iy.o
   have xg:Qi (Gl wr (some ⟨b,o,none⟩) cT l):=ww.o.below xm.o
   obtain⟨q0,q1,q2,q3,q4,q5,NF⟩:=Bh QA.o
   have GM:=xg.o.u _ (bJ gm)
   have JF:=(xg.o.t _ (bJ gm)).max
   have AV:=xg.o.range gm
   have gy:b<wr.heap.size:=cell_lt (xg.o.cells gm).1
   obtain⟨p,hp⟩:∃ p,p=l[k]:=⟨_,rfl⟩
   rw[<- hp] at AV GM JF
   have HP:Qi (l[k]=p):=hp.symm
   clear hp
   obtain⟨t,v⟩:=p
   dsimp only at GM JF AV
   have lT:Qi (wr.rangeAt b (o+k*16) (t.enc v)):=AV
   obtain⟨ot,QH⟩:∃ ot:Obj,ot=.cells #[.bool t.b,O J t.f.c.k,O J t.f.c.a,O J t.f.c.b,O J t.f.c.t,O J t.f.c.q,O J t.f.c.h,O J t.f.l,O J t.f.u,O J t.f.p,O J t.f.h,O J t.f.n,Y v.aK t.f.t.length v.cK,.bool t.f.d,O J t.f.e,Y v.aH t.u.length v.cH] 49:=⟨_,rfl⟩
   have qY:Qi ((wr.alloc ot).heap[wr.heap.size]?=some ot):=fP wr ot
   have b2:Below w.heap.size w (wr.alloc ot):=bw.alloc bw.size _
   have SG:Qi (Dk (wr.alloc ot) v.aH v.cH t.u):=GM.below (A7 wr ot)
   have DR:Qi (Below w1.heap.size w1 (wr.alloc ot)):=xm.o.alloc xm.o.size _
   have rJ:Qi ((wr.alloc ot).heap[w.heap.size]?=_):=(fU _ _ _ NF).trans QA.o
   clear GM QA xg xm bw AV q0 q1 q2 q3 q4 q5
   have l5:Qi ((wr.alloc ot).rangeAt w.heap.size 0 [Y aS M.s.length cS,Y aH M.h.length cH,Y aF M.f.length cF,Y aL M.l.length cL,O J M.w]):=Aq rJ.o rfl
   subst QH
   have TL:Qi ((wr.alloc (.cells #[.bool t.b,O J t.f.c.k,O J t.f.c.a,O J t.f.c.b,O J t.f.c.t,O J t.f.c.q,O J t.f.c.h,O J t.f.l,O J t.f.u,O J t.f.p,O J t.f.h,O J t.f.n,Y v.aK t.f.t.length v.cK,.bool t.f.d,O J t.f.e,Y v.aH t.u.length v.cH] 49)).rangeAt wr.heap.size 0 (t.enc v)):=Aq qY.o rfl
   go_wp2_with (first|refine a2r rfl _ rfl rfl lT.o ?_|refine a4z rfl _ rfl rfl l5.o ?_|refine a2r rfl _ rfl rfl TL.o ?_)
   clear qY rJ l5 TL lT
   generalize World.alloc wr _=W2 at *
   refine(a3b M t v aS aH aF aL cS cH cF cL W2 SG.o (by omega) (by omega) (by omega)).mono ?_
   rintro e w3 ⟨rfl,gu⟩
   have b3:Below w.heap.size w w3:=b2.trans (gu.mono b2.size)
   have XP:Qi (Below w1.heap.size w1 w3):=DR.o.trans (gu.mono DR.o.size)
   have HG:Qi (f l[k]=tkE M t):=by show _=_;rw[HF.o,HP.o]
   clear SG DR b2 gu
   generalize tkE M t=C0 at *
   by_cases hC:C0=0
   ·subst hC
    have HV:Qi (E0=Ap f (l.drop (k+1))):=Vp gm HG.o HE.o
    go_wp2
    go_roundw
    case rel=>exact⟨k+1,by omega,by go_num,XP,HV⟩
    case measure=>simp[intOf];omega
   ·have h':(C0 != 0)=true:=by simpa using hC
    have HV:Qi (E0=C0):=Ou gm HG.o hC HE.o
    go_wp2
    go_ret
    exact⟨by rw[HV.o];rfl,b3⟩
  ·have HV:Qi (E0=0):=drop_end (by omega) HE.o
   go_wp2
   go_ret
   exact⟨by rw[HV.o];rfl,bw⟩
def Fg(l:List (Tk × TkV)):List dU:=l.flatMap fun p=>p.1.enc p.2
theorem Kz:∀ l:List (Tk × TkV),(Fg l).length=l.length*16
 | []=>rfl
 | p :: l=>by
  have:=Kz l
  simp only[Fg,jX,gU,bV] at this ⊢
  rw[this,Tk.Ig];omega
theorem Qv{l:List (Tk × TkV)}{i:Nat}(h:i<l.length):Fg l=Fg (l.take i)++(l[i].1.enc l[i].2++Fg (l.drop (i+1))):=by
 have e:l=l.take i++l[i] :: l.drop (i+1):=by rw[List.getElem_cons_drop h,List.take_append_drop]
 conv=>lhs;rw[e]
 simp only[Fg,List.flatMap_append,jX]
theorem a0x{l:List (Tk × TkV)}{i:Nat}(h:i<l.length)(q:Tk × TkV):Fg (l.set i q)=Fg (l.take i)++(q.1.enc q.2++Fg (l.drop (i+1))):=by
 rw[jT,af h]
 simp[Fg]
theorem J7{l:List (Tk × TkV)}{i:Nat}(h:i<l.length):(Fg (l.take i)).length=i*16:=by
 rw[Kz,jO];congr 1;omega
theorem Jc{l:List (Tk × TkV)}{i q:Nat}(h:i<l.length)(hq:q<16):(Fg l)[i*16+q]?=(l[i].1.enc l[i].2)[q]?:=by
 rw[Qv h,List.getElem?_append_right (by rw[J7 h];omega),J7 h,List.getElem?_append_left (by rw[Tk.Ig];omega)]
 congr 1;omega
theorem X4{l:List (Tk × TkV)}{i o:Nat}(h:i<l.length)(vs:List dU)(q:Tk × TkV)(ho:o+vs.length<=16)
  (e:(l[i].1.enc l[i].2).take o++vs++(l[i].1.enc l[i].2).drop (o+vs.length)=q.1.enc q.2) :
  (Fg l).take (i*16+o)++vs++(Fg l).drop (i*16+o+vs.length)=Fg (l.set i q):=by
 have hl:=J7 h
 have hn:(l[i].1.enc l[i].2).length=16:=Tk.Ig _ _
 rw[a0x h,Qv h,<- e]
 rw[jY,jR (by omega),hl,show i*16+o - i*16=o by omega,jU (by omega)]
 rw[List.drop_append,aY (by omega),hl,show i*16+o+vs.length - i*16=o+vs.length by omega,List.drop_append_of_le_length (by omega)]
 simp
theorem Su{l:List (Tk × TkV)}{i o:Nat}(h:i<l.length)(v:dU)(q:Tk × TkV)(ho:o<16)(e:(l[i].1.enc l[i].2).set o v=q.1.enc q.2):(Fg l).set (i*16+o) v=Fg (l.set i q):=by
 have hl:=J7 h
 have hn:(l[i].1.enc l[i].2).length=16:=Tk.Ig _ _
 rw[a0x h,Qv h,<- e,List.set_append_right _ _ (by omega),hl,show i*16+o - i*16=o by omega,List.set_append_left _ _ (by omega)]
theorem Ju{lo size n g bg:Nat}{e:dX}:∀ (vs:List dU) (o:Nat) (w:Wq) (xs:List dU),w.ownsRow lo e size (Y (some ⟨g,0,none⟩) n bg) n xs->o+vs.length<=xs.length->(w.setCells g o vs).ownsRow lo e size (Y (some ⟨g,0,none⟩) n bg) n (xs.take o++vs++xs.drop (o+vs.length))
 | [],o,w,xs,h,hl=>by simpa [jZ] using h
 | v :: vs,o,w,xs,h,hl=>by
  rw[jZ]
  simp only[bV] at hl
  have:=Ju vs (o+1) (w.setCell ⟨g,o,none⟩ v) (xs.set o v) (h.stored o v).1 (by rw[dZ];omega)
  have e1:(xs.set o v).take (o+1)=xs.take o ++ [v]:=by
   rw[jT,af (by omega),jY,jO,Nat.min_eq_left (by omega),jR (by rw[jO];omega),show o+1 - o=1 by omega]
   rfl
  have e2:(xs.set o v).drop (o+1+vs.length)=xs.drop (o+(v :: vs).length):=by
   rw[List.drop_set_of_lt (by omega)]
   congr 1;simp;omega
  rw[e1,e2] at this
  simpa using this
theorem Rj(h:w.ownsRow lo e size v n xs)(iw:v.ownBlock≠some B)(vs:List dU):(w.setCells B o vs).ownsRow lo e size v n xs :=
 Cb h fun g hg=>Af (fun e=>iw (by rw[hg,e])) vs o w
theorem a5n{a:Option Addr}{c:Nat}{l:List (Int × Int)}(r:Az w a c l)(hn:l.length≠0){ad:Addr}(e:a=some ad):ad.block<w.heap.size:=by
 rcases r.at_ with h0|⟨b,o,e',hc⟩
 ·exact absurd h0 hn
 ·rw[e] at e'
  injection e' with e'
  subst e'
  exact cell_lt (hc 0 (by omega)).1
theorem Eo{a:Option Addr}{c:Nat}{l:List (Int × Int)}(r:Az w a c l)(h:l.length≠0->∀ ad,a=some ad->ad.block<w.heap.size->w'.heap[ad.block]?=w.heap[ad.block]?):Az w' a c l:=by
 refine⟨r.le,r.max,r.nil,?_⟩
 by_cases hn:l.length=0
 ·exact .inl hn
 rcases r.at_ with h0|⟨b,o,e,hc⟩
 ·exact .inl h0
 ·refine .inr ⟨b,o,e,fun i hi=>?_⟩
  have hb:=h hn _ e (a5n r hn e)
  rw[World.cell?_of_block (a:=⟨b,o+i*2,none⟩) hb,World.cell?_of_block (a:=⟨b,o+i*2+1,none⟩) hb]
  exact hc i hi
theorem Uf{a:Option Addr}{c:Nat}{l:List Int}(r:Dk w a c l)(h:∀ ad,a=some ad->w'.heap[ad.block]?=w.heap[ad.block]?):Dk w' a c l:=by
 refine⟨r.le,r.max,r.nil,?_⟩
 rcases r.at_ with h0|⟨b,o,e,hc⟩
 ·exact .inl h0
 ·refine .inr ⟨b,o,e,fun i hi=>?_⟩
  have hb:=h _ e
  rw[World.cell?_of_block (a:=⟨b,o+i,none⟩) hb]
  exact hc i hi
structure Cf(w:Wq)(lo g cT:Nat)(l:List (Tk × TkV)):Prop where
 row:w.ownsRow lo 49 16 (Y (some ⟨g,0,none⟩) l.length cT) l.length (Fg l)
 few:l.length<=5
 hm:∀ p∈l,p.1.u.length<=1000
 u:∀ p∈l,w.ownsRow lo 3 1 (Y p.2.aH p.1.u.length p.2.cH) p.1.u.length (encI p.1.u)
 dj:∀ i j (hi:i<l.length) (hj:j<l.length),i≠j->∀ a b,l[i].2.aH=some a->l[j].2.aH=some b->a.block≠b.block
 t:∀ p∈l,Az w p.2.aK p.2.cK p.1.f.t
 klo:∀ p∈l,∀ a,p.2.aK=some a->lo<=a.block
 kg:∀ p∈l,p.1.f.t.length≠0->∀ a,p.2.aK=some a->a.block≠g
 kh:∀ p∈l,p.1.f.t.length≠0->∀ q∈l,∀ a b,p.2.aK=some a->q.2.aH=some b->a.block≠b.block
def TB(g:Nat)(l:List (Tk × TkV))(k:Nat):Prop:=k=g\/(∃ p∈l,∃ a,p.2.aH=some a/\a.block=k)\/(∃ p∈l,∃ a,p.2.aK=some a/\a.block=k)
theorem Cf.hg{l:List (Tk × TkV)}(T:Cf w lo g cT l){p:Tk × TkV}(hp:p∈l){a:Addr}(ha:p.2.aH=some a):a.block≠g:=by
 have h1:=T.u p hp
 rw[ha] at h1
 intro e
 exact D9 h1 T.row (by decide) a.block rfl (by rw[e];rfl)
theorem Cf.hlo{l:List (Tk × TkV)}(T:Cf w lo g cT l){p:Tk × TkV}(hp:p∈l){a:Addr}(ha:p.2.aH=some a):lo<=a.block/\a.block<w.heap.size:=by
 have h1:=T.u p hp
 rw[ha] at h1
 exact h1.lt a.block rfl
theorem Cf.glo{l:List (Tk × TkV)}(T:Cf w lo g cT l):lo<=g/\g<w.heap.size:=T.row.lt g rfl
theorem Cf.same{l:List (Tk × TkV)}(T:Cf w lo g cT l)(h:∀ k,k<w.heap.size->TB g l k->w'.heap[k]?=w.heap[k]?):Cf w' lo g cT l :=
 ⟨Cb T.row fun k hk=>h k (T.row.lt k hk).2 (.inl (by injection hk with hk;exact hk.symm)),T.few,T.hm,fun p hp=>Cb (T.u p hp) fun k hk=>h k ((T.u p hp).lt k hk).2 (.inr (.inl ⟨p,hp,(by
  cases ha:p.2.aH with
  | none=>rw[ha] at hk;cases hk
  | some a=>rw[ha] at hk;injection hk with hk;exact⟨a,rfl,hk⟩)⟩)),T.dj,fun p hp=>Eo (T.t p hp) fun _ a ha hz=>h _ hz (.inr (.inr ⟨p,hp,a,ha,rfl⟩)),T.klo,T.kg,T.kh⟩
theorem Cf.below{l:List (Tk × TkV)}(T:Cf w lo g cT l)(hb:Below w.heap.size w w'):Cf w' lo g cT l:=T.same fun k h _=>hb.block k h
theorem Cf.cell{l:List (Tk × TkV)}(T:Cf w lo g cT l){i q:Nat}(hi:i<l.length)(hq:q<16):w.cell? ⟨g,i*16+q,none⟩=(l[i].1.enc l[i].2)[q]?:=by
 rw[T.row.cellAt _ (by omega),Jc hi hq]
theorem Cf.Rn{l:List (Tk × TkV)}(T:Cf w lo g cT l){i:Nat}(hi:i<l.length):w.rangeAt g (i*16+1) (l[i].1.f.enc l[i].2.aK l[i].2.cK):=fun j v hv=>by
 have hj:j<14:=by
  have:=(List.getElem?_eq_some_iff.1 hv).1
  rwa [Fr.Ig] at this
 rw[show i*16+1+j=i*16+(j+1) by omega,T.cell hi (by omega),<- hv]
 show ((l[i].1.f.enc l[i].2.aK l[i].2.cK) ++ [_])[j]?=_
 rw[List.getElem?_append_left (by rw[Fr.Ig];omega)]
theorem Cf.there{l:List (Tk × TkV)}(T:Cf w lo g cT l){i o n:Nat}(hi:i<l.length)(hn:o+n<=16):w.there g (i*16+o) n:=fun j hj=>by
 refine⟨?_,T.row.frozenAt _⟩
 rw[Nat.add_assoc,T.cell hi (by omega)]
 obtain⟨v,hv⟩:=Sv l[i].1 l[i].2 (q:=o+j) (by omega)
 rw[hv];rfl
theorem Cf.b{l:List (Tk × TkV)}(T:Cf w lo g cT l){i:Nat}(hi:i<l.length):w.cell? ⟨g,i*16,none⟩=some (.bool l[i].1.b)/\w.frozen? ⟨g,i*16,none⟩=false:=⟨T.cell (q:=0) hi (by decide),T.row.frozenAt _⟩
theorem Cf.a1i{l:List (Tk × TkV)}(T:Cf w lo g cT l){i:Nat}(hi:i<l.length):w.cell? ⟨g,i*16+15,none⟩=some (Y l[i].2.aH l[i].1.u.length l[i].2.cH)/\w.frozen? ⟨g,i*16+15,none⟩=false:=⟨T.cell (q:=15) hi (by decide),T.row.frozenAt _⟩
theorem Cf.a8q{l:List (Tk × TkV)}(T:Cf w lo g cT l):Gl w (some ⟨g,0,none⟩) cT l:=by
 have hf:=T.few
 refine⟨?_,by omega,(fun h=>by cases h),.inr ⟨g,0,rfl,fun i hi q hq=>by rw[Nat.zero_add];exact T.cell hi hq⟩,T.t,fun p hp=>?_⟩
 ·rcases T.row.2 with ⟨h,-⟩|⟨g',bg,sU,h,-,-,h2⟩
  ·cases h
  ·injection h with h1 h2' h3
   subst h3
   exact h2.1
 ·exact Dk.own (T.u p hp) (by have:=T.hm p hp;omega)
theorem Cf.thi{l:List (Tk × TkV)}(T:Cf w lo g cT l):THi lo (some ⟨g,0,none⟩) l :=
 ⟨(by rintro ad ⟨⟩;exact T.glo.1),fun p hp a ha=>T.klo p hp a ha,fun p hp a ha=>(T.hlo hp ha).1⟩
theorem Il{l:List (Tk × TkV)}{i j:Nat}{q:Tk × TkV}(hi:i<l.length)(hj:j<(l.set i q).length):(j=i/\(l.set i q)[j]=q)\/(j≠i/\∃ h:j<l.length,(l.set i q)[j]=l[j]):=by
 by_cases e:j=i
 ·subst e;exact .inl ⟨rfl,by simp⟩
 ·refine .inr ⟨e,by simpa using hj,?_⟩
  rw[List.getElem_set_ne (fun h=>e h.symm)]
theorem Jw{l:List (Tk × TkV)}{i:Nat}{q p:Tk × TkV}(hi:i<l.length)(hp:p∈l.set i q):p=q\/p∈l:=by
 rcases List.mem_or_eq_of_mem_set hp with h|h
 ·exact .inr h
 ·exact .inl h
theorem Cf.a4j{l:List (Tk × TkV)}(T:Cf w lo g cT l){i:Nat}(hi:i<l.length)(f:Fr)(a:Option Addr)(c:Nat)(hk:Az w a c f.t)(hlo:∀ ad,a=some ad->lo<=ad.block)(hg:f.t.length≠0->∀ ad,a=some ad->ad.block≠g)(hh:f.t.length≠0->∀ q∈l,∀ x b,a=some x->q.2.aH=some b->x.block≠b.block) :
  Cf (w.setCells g (i*16+1) (f.enc a c)) lo g cT (l.set i (⟨l[i].1.b,f,l[i].1.u⟩,⟨a,c,l[i].2.aH,l[i].2.cH⟩)):=by
 have jb:(l.set i (⟨l[i].1.b,f,l[i].1.u⟩,⟨a,c,l[i].2.aH,l[i].2.cH⟩)).length=l.length:=dZ
 have yg:∀ k,k≠g->(w.setCells g (i*16+1) (f.enc a c)).heap[k]?=w.heap[k]?:=fun k hk=>Af hk _ _ _
 have hm:∀ {p},p∈l.set i (⟨l[i].1.b,f,l[i].1.u⟩,⟨a,c,l[i].2.aH,l[i].2.cH⟩)->(p.1.f=f/\p.2.aK=a/\p.2.cK=c/\p.1.u=l[i].1.u/\p.2.aH=l[i].2.aH/\p.2.cH=l[i].2.cH)\/p∈l:=fun hp=>(Jw hi hp).imp (fun h=>by subst h;exact⟨rfl,rfl,rfl,rfl,rfl,rfl⟩) id
 have hH:∀ {p},p∈l.set i (⟨l[i].1.b,f,l[i].1.u⟩,⟨a,c,l[i].2.aH,l[i].2.cH⟩)->∃ q∈l,p.1.u=q.1.u/\p.2.aH=q.2.aH/\p.2.cH=q.2.cH:=fun hp=>by
  rcases hm hp with ⟨-,-,-,h1,h2,h3⟩|h
  ·exact⟨l[i],bJ hi,h1,h2,h3⟩
  ·exact⟨_,h,rfl,rfl,rfl⟩
 refine⟨?_,by rw[jb];exact T.few,fun p hp=>?_,fun p hp=>?_,fun j k hj rO iw x y hx hy=>?_,fun p hp=>?_,fun p hp x hx=>?_,fun p hp hn x hx=>?_,fun p hp hn q hq x y hx hy=>?_⟩
 ·rw[jb,<- X4 hi (o:=1) (f.enc a c) (⟨l[i].1.b,f,l[i].1.u⟩,⟨a,c,l[i].2.aH,l[i].2.cH⟩) (by rw[Fr.Ig];decide) rfl]
  exact Ju _ _ _ _ T.row (by rw[Kz,Fr.Ig];omega)
 ·obtain⟨q,hq,e,-⟩:=hH hp
  rw[e];exact T.hm q hq
 ·obtain⟨q,hq,e1,e2,e3⟩:=hH hp
  rw[e1,e2,e3]
  refine Rj (T.u q hq) (fun h=>?_) _
  cases ha:q.2.aH with
  | none=>rw[ha] at h;cases h
  | some ad=>rw[ha] at h;injection h with h;exact T.hg hq ha h
 ·have e:∀ {j} (hj:j<(l.set i ((⟨l[i].1.b,f,l[i].1.u⟩,⟨a,c,l[i].2.aH,l[i].2.cH⟩):Tk × TkV)).length),∃ h:j<l.length,(l.set i ((⟨l[i].1.b,f,l[i].1.u⟩,⟨a,c,l[i].2.aH,l[i].2.cH⟩):Tk × TkV))[j].2.aH=l[j].2.aH:=fun {j} hj=>by
   rcases Il hi hj with ⟨rfl,e⟩|⟨_,h,e⟩
   ·exact⟨hi,by rw[e]⟩
   ·exact⟨h,by rw[e]⟩
  obtain⟨h1,e1⟩:=e hj
  obtain⟨h2,e2⟩:=e rO
  rw[e1] at hx;rw[e2] at hy
  exact T.dj j k h1 h2 iw x y hx hy
 ·rcases hm hp with ⟨h1,h2,h3,-⟩|h
  ·rw[h1,h2,h3];exact Eo hk fun hn ad e _=>yg _ (hg hn ad e)
  ·exact Eo (T.t p h) fun hn ad e _=>yg _ (T.kg p h hn ad e)
 ·rcases hm hp with ⟨-,h2,-⟩|h
  ·rw[h2] at hx;exact hlo x hx
  ·exact T.klo p h x hx
 ·rcases hm hp with ⟨h1,h2,-⟩|h
  ·rw[h1] at hn;rw[h2] at hx;exact hg hn x hx
  ·exact T.kg p h hn x hx
 ·obtain⟨q',AX,-,e2,-⟩:=hH hq
  rw[e2] at hy
  rcases hm hp with ⟨h1,h2,-⟩|h
  ·rw[h1] at hn;rw[h2] at hx;exact hh hn q' AX x y hx hy
  ·exact T.kh p h hn q' AX x y hx hy
theorem Cf.setB{l:List (Tk × TkV)}(T:Cf w lo g cT l){i:Nat}(hi:i<l.length)(b:Bool) :
  Cf (w.setCell ⟨g,i*16,none⟩ (.bool b)) lo g cT (l.set i (⟨b,l[i].1.f,l[i].1.u⟩,l[i].2)):=by
 have jb:(l.set i (⟨b,l[i].1.f,l[i].1.u⟩,l[i].2)).length=l.length:=dZ
 have yg:∀ k,k≠g->(w.setCell ⟨g,i*16,none⟩ (.bool b)).heap[k]?=w.heap[k]?:=fun k hk=>dM _ _ _ _ (by dsimp only;exact hk)
 have hH:∀ {p},p∈l.set i (⟨b,l[i].1.f,l[i].1.u⟩,l[i].2)->∃ q∈l,p.1.f=q.1.f/\p.1.u=q.1.u/\p.2=q.2:=fun hp=>by
  rcases Jw hi hp with rfl|h
  ·exact⟨l[i],bJ hi,rfl,rfl,rfl⟩
  ·exact⟨_,h,rfl,rfl,rfl⟩
 refine⟨?_,by rw[jb];exact T.few,fun p hp=>?_,fun p hp=>?_,fun j k hj rO iw x y hx hy=>?_,fun p hp=>?_,fun p hp x hx=>?_,fun p hp hn x hx=>?_,fun p hp hn q hq x y hx hy=>?_⟩
 ·rw[jb,<- Su hi (o:=0) (.bool b) (⟨b,l[i].1.f,l[i].1.u⟩,l[i].2) (by decide) rfl]
  exact(T.row.stored (i*16) _).1
 ·obtain⟨q,hq,-,e,-⟩:=hH hp
  rw[e];exact T.hm q hq
 ·obtain⟨q,hq,-,e1,e2⟩:=hH hp
  rw[e1,e2]
  refine dV (T.u q hq) (fun h=>?_) _
  cases ha:q.2.aH with
  | none=>rw[ha] at h;cases h
  | some ad=>rw[ha] at h;injection h with h;exact T.hg hq ha h
 ·have e:∀ {j} (hj:j<(l.set i (⟨b,l[i].1.f,l[i].1.u⟩,l[i].2)).length),∃ h:j<l.length,(l.set i (⟨b,l[i].1.f,l[i].1.u⟩,l[i].2))[j].2.aH=l[j].2.aH:=fun {j} hj=>by
   rcases Il hi hj with ⟨rfl,e⟩|⟨_,h,e⟩
   ·exact⟨hi,by rw[e]⟩
   ·exact⟨h,by rw[e]⟩
  obtain⟨h1,e1⟩:=e hj
  obtain⟨h2,e2⟩:=e rO
  rw[e1] at hx;rw[e2] at hy
  exact T.dj j k h1 h2 iw x y hx hy
 ·obtain⟨q,hq,e1,-,e2⟩:=hH hp
  rw[e1,e2];exact Eo (T.t q hq) fun hn ad e _=>yg _ (T.kg q hq hn ad e)
 ·obtain⟨q,hq,-,-,e2⟩:=hH hp
  rw[e2] at hx;exact T.klo q hq x hx
 ·obtain⟨q,hq,e1,-,e2⟩:=hH hp
  rw[e1] at hn
  rw[e2] at hx;exact T.kg q hq hn x hx
 ·obtain⟨q1,xx,e0,-,e1⟩:=hH hp
  obtain⟨q2,yZ,-,-,e2⟩:=hH hq
  rw[e0] at hn
  rw[e1] at hx;rw[e2] at hy
  exact T.kh q1 xx hn q2 yZ x y hx hy
theorem Cf.setH{l:List (Tk × TkV)}(T:Cf w lo g cT l){i:Nat}(hi:i<l.length)(h':List Int)(a':Option Addr)(c':Nat)(hm':h'.length<=1000)(ho:w1.ownsRow lo 3 1 (Y a' h'.length c') h'.length (encI h'))(hs:∀ k,k<w.heap.size->(∀ ad,l[i].2.aH=some ad->k≠ad.block)->w1.heap[k]?=w.heap[k]?)(ru:∀ x,a'=some x->(∃ ad,l[i].2.aH=some ad/\x.block=ad.block)\/w.heap.size<=x.block) :
  Cf (w1.setCell ⟨g,i*16+15,none⟩ (Y a' h'.length c')) lo g cT (l.set i (⟨l[i].1.b,l[i].1.f,h'⟩,⟨l[i].2.aK,l[i].2.cK,a',c'⟩)):=by
 have qP:=bJ hi
 have jb:(l.set i (⟨l[i].1.b,l[i].1.f,h'⟩,⟨l[i].2.aK,l[i].2.cK,a',c'⟩)).length=l.length:=dZ
 have vT:=T.glo
 have BD:w1.heap[g]?=w.heap[g]?:=hs g vT.2 (fun ad e h=>T.hg qP e h.symm)
 have row1:w1.ownsRow lo 49 16 (Y (some ⟨g,0,none⟩) l.length cT) l.length (Fg l):=Cb T.row fun k hk=>by injection hk with hk;subst hk;exact BD
 have yg:∀ k,k≠g->(w1.setCell ⟨g,i*16+15,none⟩ (Y a' h'.length c')).heap[k]?=w1.heap[k]?:=fun k hk=>dM _ _ _ _ (by dsimp only;exact hk)
 have hng:∀ x,a'=some x->x.block≠g:=fun x e h=>by
  rcases ru x e with ⟨ad,e',h'⟩|h'
  ·exact T.hg qP e' (h'.symm.trans h)
  ·omega
 have hK:∀ {p},p∈l.set i (⟨l[i].1.b,l[i].1.f,h'⟩,⟨l[i].2.aK,l[i].2.cK,a',c'⟩)->∃ q∈l,p.1.f=q.1.f/\p.2.aK=q.2.aK/\p.2.cK=q.2.cK:=fun hp=>by
  rcases Jw hi hp with rfl|h
  ·exact⟨l[i],qP,rfl,rfl,rfl⟩
  ·exact⟨_,h,rfl,rfl,rfl⟩
 refine⟨?_,by rw[jb];exact T.few,fun p hp=>?_,fun p hp=>?_,fun j k hj rO iw x y hx hy=>?_,fun p hp=>?_,fun p hp x hx=>?_,fun p hp hn x hx=>?_,fun p hp hn q hq x y hx hy=>?_⟩
 ·rw[jb,<- Su hi (o:=15) (Y a' h'.length c') (⟨l[i].1.b,l[i].1.f,h'⟩,⟨l[i].2.aK,l[i].2.cK,a',c'⟩) (by decide) rfl]
  exact(row1.stored (i*16+15) _).1
 ·rcases Jw hi hp with rfl|h
  ·exact hm'
  ·exact T.hm p h
 ·obtain⟨j,hj,rfl⟩:=List.getElem_of_mem hp
  rcases Il hi hj with ⟨-,e⟩|⟨iw,h,e⟩
  ·rw[e]
   refine dV ho (fun h=>?_) _
   cases a' with
   | none=>cases h
   | some x=>injection h with h;exact hng x rfl h
  ·rw[e]
   have hh:=T.u _ (bJ h)
   cases ha:l[j].2.aH with
   | none =>
    rw[ha] at hh
    exact Cb hh fun k hk=>by cases hk
   | some ad =>
    rw[ha] at hh
    refine dV (Cb hh fun k hk=>?_) (fun h'=>?_) _
    ·injection hk with hk
     subst hk
     exact hs _ (T.hlo (bJ h) ha).2 (fun ad' e'=>T.dj j i h hi iw ad ad' ha e')
    ·injection h' with h'
     exact T.hg (bJ h) ha h'
 ·have UC:∀ {j} (h:j<l.length),j≠i->∀ x y,a'=some x->l[j].2.aH=some y->x.block≠y.block:=fun {j} h iw x y hx hy=>by
   rcases ru x hx with ⟨ad,e,e'⟩|h'
   ·rw[e'];exact(T.dj j i h hi iw y ad hy e).symm
   ·have:=(T.hlo (bJ h) hy).2
    omega
  rcases Il hi hj with ⟨rfl,e⟩|⟨n1,h1,e⟩
  ·rw[e] at hx
   rcases Il hi rO with ⟨rfl,e'⟩|⟨n2,h2,e'⟩
   ·exact absurd rfl iw
   ·rw[e'] at hy
    exact UC h2 n2 x y hx hy
  ·rw[e] at hx
   rcases Il hi rO with ⟨rfl,e'⟩|⟨n2,h2,e'⟩
   ·rw[e'] at hy
    exact(UC h1 n1 y x hy hx).symm
   ·rw[e'] at hy
    exact T.dj j k h1 h2 iw x y hx hy
 ·obtain⟨q,hq,e1,e2,e3⟩:=hK hp
  rw[e1,e2,e3]
  refine Eo (w:=w) (T.t q hq) fun hn ad e hz=>?_
  rw[yg _ (T.kg q hq hn ad e)]
  exact hs _ hz (fun ad' e'=>T.kh q hq hn _ qP ad ad' e e')
 ·obtain⟨q,hq,-,e2,-⟩:=hK hp
  rw[e2] at hx;exact T.klo q hq x hx
 ·obtain⟨q,hq,e1,e2,-⟩:=hK hp
  rw[e1] at hn
  rw[e2] at hx;exact T.kg q hq hn x hx
 ·obtain⟨q1,xx,e0,e1,-⟩:=hK hp
  rw[e0] at hn
  rw[e1] at hx
  rcases Jw hi hq with rfl|h
  ·rcases ru y hy with ⟨ad,e,e'⟩|h'
   ·rw[e'];exact T.kh q1 xx hn _ qP x ad hx e
   ·have:=a5n (T.t q1 xx) hn hx
    omega
  ·exact T.kh q1 xx hn q h x y hx hy
section
open Deep Go.Sort
def Vm(l:List Int)(x i:Int):Prop:=(i=-1/\x ∉ l)\/∃ (k:Nat) (h:k<l.length),i=(k:Int)/\l[k]=x/\x ∉ l.take k
theorem index_first(w:Wq)(r:Dk w ao bg l) :
  aI Pg 78 #[Y ao l.length bg,O J x] w fun e w'=>∃ i:Int,e=.returned (O J i)/\Vm l x i/\w=w':=by
 have m1:=r.max
 have wQ:Qi (∀ i (h:i<l.length),∃ b o,ao=some ⟨b,o,none⟩/\w.cell? ⟨b,o+i,none⟩=some (O J l[i])):=fun i h=>by
  rcases r.at_ with h0|⟨b,o,e,hc⟩
  ·omega
  ·exact⟨b,o,e,hc i h⟩
 clear r
 go_enter func78,ntmps78
 go_wp2
 go_loop [8] (fun i=>∃ k:Nat,k<=l.length/\i=O J k/\Qi (x ∉ l.take k)) (fun i=>l.length - (intOf i).toNat)
 case atStart=>exact⟨0,aG _,rfl,by show _ ∉ _;simp⟩
 case round =>
  obtain⟨k,hk,rfl,HC⟩:=hrel
  by_cases gm:k<l.length
  ·obtain⟨b,o,rfl,BI⟩:=wQ.o k gm
   have KD:Qi (∀ y,l[k]=y->x≠y->x ∉ l.take (k+1)):=fun y e hn=>by
    show _ ∉ _
    rw[aV gm]
    simp only[List.mem_append,List.mem_singleton,not_or]
    exact⟨HC.o,by rw[e];exact hn⟩
   by_cases hx:x=l[k]
   ·have HH:Qi (Vm l x k):=.inr ⟨k,gm,rfl,hx.symm,HC.o⟩
    generalize l[k]=y at BI hx
    subst hx
    go_wp2
    go_ret
    exact⟨k,rfl,HH.o,rfl⟩
   ·have HH:Qi (x ∉ l.take (k+1)):=KD.o _ rfl hx
    have LP:(x==l[k])=false:=by simpa using hx
    go_wp2
    go_round
    case rel=>exact⟨k+1,by omega,by go_num,HH⟩
    case measure=>simp[intOf];omega
  ·have HH:Qi (Vm l x (-1)):=.inl ⟨rfl,by
    have:=HC.o
    rwa [show k=l.length by omega,jS] at this⟩
   go_wp2
   go_ret
   exact⟨-1,rfl,HH.o,rfl⟩
theorem Ux{l:List Int}{x:Int}{k:Nat}(h:k<l.length)(e:l[k]=x)(hn:x ∉ l.take k):l.erase x=l.eraseIdx k:=by
 induction l generalizing k with
 | nil=>simp at h
 | cons y l ih =>
  cases k with
  | zero =>
   simp at e
   subst e
   simp
  | succ k =>
   simp at hn
   rw[List.erase_cons_tail (by simpa using fun e=>hn.1 e.symm),List.eraseIdx_cons_succ]
   rw[ih (by simpa using h) (by simpa using e) hn.2]
theorem a4c{c i j:Nat}{l:List Int}(hO:w.ownsRow lo 3 1 (Y (some ⟨g,0,none⟩) l.length c) l.length (encI l))(hi:i<l.length)(hj:j=i+1)(q:Nat)(hq:q=l.length - 1)(z:dU) :
  (((w.drew).setCells g i ((encI l).drop j)).setCells g q [z]).ownsRow lo 3 1 (Y (some ⟨g,0,none⟩) (l.eraseIdx i).length c) (l.eraseIdx i).length (encI (l.eraseIdx i)):=by
 subst hj hq
 have jb:(l.eraseIdx i).length=l.length - 1:=jV hi
 have hL:=Dz l
 have h0:w.drew.ownsRow lo 3 1 (Y (some ⟨g,0,none⟩) l.length c) l.length (encI l):=hO.drew
 have h1:=Ju ((encI l).drop (i+1)) i w.drew (encI l) h0 (by rw[jP];omega)
 have h2:=Ju [z] (l.length - 1) _ _ h1 (by simp only[gU,jO,jP,jW];omega)
 have e:(List.take i (encI l)++jQ (i+1) (encI l)++jQ (i+(jQ (i+1) (encI l)).length) (encI l)).take (l.length - 1)=encI (l.eraseIdx i):=by
  rw[jU (by simp only[gU,jO,jP];omega),jR (by simp only[gU,jO,jP];omega),List.eraseIdx_eq_take_drop_succ]
  simp[encI]
 rw[e] at h2
 have e2:jQ (l.length - 1 + [z].length) (List.take i (encI l)++jQ (i+1) (encI l)++jQ (i+(jQ (i+1) (encI l)).length) (encI l))=[]:=by
  apply aY
  simp only[gU,jO,jP,jW];omega
 rw[e2,List.append_nil] at h2
 obtain⟨m,hm⟩:∃ m,l.length=m+1:=⟨l.length - 1,by omega⟩
 rw[hm] at h2
 refine ownsRow_pop (last:=[z]) (by rw[Dz,jb];omega) ?_
 rw[jb,hm]
 simpa using h2
theorem b3i(g c i j lo:Nat)(l:List Int)(w:Wq)(hO:w.ownsRow lo 3 1 (Y (some ⟨g,0,none⟩) l.length c) l.length (encI l))(hi:i<l.length)(hj:j=i+1)(BL:l.length<=1000) :
  aI Pg 198 #[Y (some ⟨g,0,none⟩) l.length c,O J (i:Int),O J (j:Int)] w fun e w'=>e=.returned (Y (some ⟨g,0,none⟩) (l.eraseIdx i).length c)/\w'.ownsRow lo 3 1 (Y (some ⟨g,0,none⟩) (l.eraseIdx i).length c) (l.eraseIdx i).length (encI (l.eraseIdx i))/\Fine w w' (fun k=>k=g):=by
 have jb:(l.eraseIdx i).length=i+(l.length - j):=by rw[jV hi];omega
 obtain⟨i0,uS,ng,qj,pq⟩:=info_parts iI
 obtain⟨hcap,hcm⟩:l.length<=c/\c<=maxLen:=by
  rcases hO.2 with ⟨h,-⟩|⟨g',bg,sU,h,-,-,hc,hm,-⟩
  ·cases h
  ·injection h with h1 h2 h3
   omega
 have hm:c<=9223372036854775807:=by unfold maxLen at hcm;exact hcm
 obtain⟨jw,sQ⟩:∃ jw,jw=(encI l).drop j:=⟨_,rfl⟩
 have HE:Qi (∀ q z,q=i+(l.length - j)->((w.drew.setCells g i jw).setCells g q [z]).ownsRow lo 3 1 (Y (some ⟨g,0,none⟩) (l.eraseIdx i).length c) (l.eraseIdx i).length (encI (l.eraseIdx i))):=fun q z hq=>sQ ▸ a4c hO hi hj q (by omega) z
 have hL:=Dz l
 have LV:jw.length=l.length - j:=by rw[sQ,jP];omega
 have ui:∀ t,t<l.length->(w.drew.cell? ⟨g,t,none⟩).isSome=true:=fun t ht=>by
  have e:w.drew.cell? ⟨g,t,none⟩=_:=hO.cellAt t (by omega)
  rw[e,List.getElem?_eq_getElem (by omega)]
  rfl
 have xR:∀ t,w.drew.frozen? ⟨g,t,none⟩=false:=fun t=>hO.frozenAt t
 obtain⟨A,hA,hsrc⟩:∃ A:Addr,(if c=j then some (⟨g,0,none⟩:Addr) else some ⟨g,j,none⟩)=some A/\Qi (∀ t u,jw[t]?=some u->w.drew.cell? (A.add t)=some u):=by
  by_cases h:c=j
  ·refine⟨⟨g,0,none⟩,by simp[h],fun t u hu=>?_⟩
   have h0:jw.length=0:=by rw[LV];omega
   rw[List.length_eq_zero_iff.1 h0] at hu
   simp at hu
  ·refine⟨⟨g,j,none⟩,by simp[h],fun t u hu=>?_⟩
   have ht:t<l.length - j:=by
    have:=(List.getElem?_eq_some_iff.1 hu).1
    rwa [LV] at this
   rw[Addr.add_lit]
   have e:w.drew.cell? ⟨g,j+t,none⟩=_:=hO.cellAt (j+t) (by omega)
   rw[e,<- hu,sQ,List.getElem?_drop]
 have s1:Qi (jw.length=(l.length - j)*1):=by show _=_;omega
 have s2:Qi (∀ u∈jw,u.oneCell'=true):=fun u hu=>Hg l u (List.mem_of_mem_drop (sQ ▸ hu))
 have s3:Qi (∀ t,t<jw.length->(w.drew.cell? ⟨g,0+i*1+t,none⟩).isSome=true/\w.drew.frozen? ⟨g,0+i*1+t,none⟩=false):=fun t ht=>by
  rw[LV] at ht
  exact⟨ui _ (by omega),xR _⟩
 obtain⟨W1,VF⟩:∃ W1,W1=w.drew.setCells g (0+i*1) jw:=⟨_,rfl⟩
 have hv:∀ w,(zeroValue 3).run Pg w=.ok (O J 0) w:=fun w=>by kernel_rfl
 have ES:∀ ty,(Builtin.clear_ #[23] ty #[Y (some ⟨g,i+(l.length - j),none⟩) (l.length - (i+(l.length - j))) (c - (i+(l.length - j)))]).run Pg W1=.ok (.tuple #[]) (W1.setCells g (i+(l.length - j)) [O J 0]):=fun ty=>by
  have h:=Lib.run_clear_slice (P:=Pg) W1 23 3 ty (O J 0) underlying23 hv (by kernel_rfl) (by kernel_rfl) g (i+(l.length - j)) (l.length - (i+(l.length - j))) (c - (i+(l.length - j))) (by omega) (fun t ht=>by
   rw[VF,World.cell?_setCells_out g _ _ _ _ (fun _ _=>.inr (by rw[LV];dsimp only;omega))]
   exact ui _ (by omega)) (fun t ht=>by rw[VF,World.frozen?_setCells];exact xR _)
  rw[show l.length - (i+(l.length - j))=1 by omega] at h ⊢
  exact h
 have HB:Qi (Fine w W1 (fun k=>k=g)):=by
  rw[VF]
  exact⟨(Au _ _ _).1,(Au _ _ _).2.1,(Au _ _ _).2.2,by rw[setCells_size];exact Nat.le_refl _,fun k h1 h2=>Af h2 _ _ _⟩
 have hW:Qi (W1=w.drew.setCells g (0+i*1) jw):=VF
 have vz:i<=c:=by omega
 have UN:j<=c:=by omega
 have gm:i<j:=by omega
 have hjn:j<=l.length:=by omega
 rw[jb]
 rw[jb] at HE
 clear VF ui xR hO sQ LV jb hj hi hcm hL hv
 generalize encI (l.eraseIdx i)=xs at *
 generalize l.length=n at *
 go_enter func198,ntmps198
 go_wp2_with fail
 go_region_law (refine step_append_room rfl _ _ 23 rfl 3 i0 1 underlying23 uS qj g 0 i c (by simp[Act.eval,Act.put]) A (n - j) (c - j) jw (by simp[Act.eval,Act.put]) s1.o hsrc.o s2.o (by omega) s3.o ?_;rw[<- hW.o])
 go_wp2
 go_ret
 refine⟨rfl,?_,?_⟩
 ·have h:=HE.o _ (O J 0) rfl
  rw[hW.o,Nat.zero_add,Nat.mul_one]
  exact h
 ·have h:=HB.o
  exact⟨(Au _ _ _).1.trans h.os,(Au _ _ _).2.1.trans h.tape,(Au _ _ _).2.2.trans h.output,by rw[setCells_size];exact h.size,fun k h1 h2=>(Af h2 _ _ _).trans (h.block k h1 h2)⟩
end
end Go.Proofs.YthhgoenomehobaaGreat.mm
