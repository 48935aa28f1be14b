/- Parts. -/
import Derived.Test.YthhgoenomehobaaGreatP42
import Derived.Test.YthhgoenomehobaaGreatP39
import Derived.Test.YthhgoenomehobaaGreatP46
import Derived.Maps.AppendAt
namespace Go.Proofs.YthhgoenomehobaaGreat.mm
set_option maxRecDepth 100000
set_option linter.unusedVariables false
open Go.Value renaming int → O, slice → Y
open Go.IntKind renaming i64 → J
open Go.Proofs.Tryz renaming prog → Pg
open Go renaming undef → Uz, World → Wq
open Go.ChangeShapes Go.WideShapes Go.ChangeAt Go.RowKit Go.Joins Go.Deep Go.Maps
set_option maxHeartbeats 1600000
section
def b3u(k F:Nat)(s:String):Array Oper:=#[⟨some k,.move (.tmp 7),113,s,#[],none⟩,⟨some (k+1),.fieldAddr 28 (.tmp 2) 0,0,s,#[],none⟩,⟨some (k+2),.move (.tmp 7),113,s,#[],none⟩,⟨some (k+3),.nilCheck (.tmp (k+2)),0,s,#[⟨2,.data⟩],none⟩,⟨some (k+4),.fieldAddr 49 (.tmp (k+3)) 1,0,s,#[⟨3,.data⟩],none⟩,⟨some (k+5),.load 47 (.tmp (k+4)),47,s,#[⟨4,.data⟩],none⟩,⟨some (k+6),.fieldAddr 34 (.tmp 3) 0,0,s,#[],none⟩,⟨some (k+7),.load 3 (.tmp (k+6)),3,s,#[⟨6,.data⟩],none⟩,
 ⟨some (k+8),.call { callee:=.value (.func F),args:=#[.tmp (k+1),.tmp (k+5),.tmp (k+7)],argTypes:=#[116,47,3] },47,s,#[⟨1,.data⟩,⟨5,.data⟩,⟨7,.data⟩],none⟩,⟨some (k+9),.nilCheck (.tmp k),0,s,#[⟨0,.data⟩,⟨0,.phase⟩,⟨1,.phase⟩,⟨2,.phase⟩,⟨3,.phase⟩,⟨4,.phase⟩,⟨5,.phase⟩,⟨6,.phase⟩,⟨7,.phase⟩,⟨8,.phase⟩],none⟩,⟨some (k+10),.fieldAddr 49 (.tmp (k+9)) 1,0,s,#[⟨9,.data⟩,⟨0,.phase⟩,⟨1,.phase⟩,⟨2,.phase⟩,⟨3,.phase⟩,⟨4,.phase⟩,⟨5,.phase⟩,⟨6,.phase⟩,⟨7,.phase⟩,⟨8,.phase⟩],none⟩,
 ⟨none,.store 47 (.tmp (k+10)) (.tmp (k+8)),0,s,#[⟨10,.data⟩,⟨8,.data⟩,⟨8,.chain⟩,⟨0,.phase⟩,⟨1,.phase⟩,⟨2,.phase⟩,⟨3,.phase⟩,⟨4,.phase⟩,⟨5,.phase⟩,⟨6,.phase⟩,⟨7,.phase⟩,⟨8,.phase⟩],none⟩]
def dS(k:Nat):List Nat:=[k,k+1,k+2,k+3,k+4,k+5,k+6,k+7,k+8,k+9,k+10]
theorem evS{A:Act}{k:Nat}(x:Nat->Value)(hsz:A.tmps.size=263)(hk:k+10<263)(j:Nat)(hj:j<11):(mkA A (dS k) x).tmps[k+j]?.getD Uz=x (k+j):=by
 have h:((dS k).contains (k+j) && decide (k+j<A.tmps.size))=true:=by
  rw[hsz,Bool.and_eq_true]
  refine⟨?_,by simp;omega⟩
  have:j=0\/j=1\/j=2\/j=3\/j=4\/j=5\/j=6\/j=7\/j=8\/j=9\/j=10:=by omega
  rcases this with rfl|rfl|rfl|rfl|rfl|rfl|rfl|rfl|rfl|rfl|rfl <;> simp[dS]
 have h':=a8f (a:=A) (D:=dS k) (x:=x) (k:=k+j) h
 rwa [Act.eval,Array.getD_eq_getD_getElem?] at h'
theorem evO{A:Act}{k:Nat}(x:Nat->Value){j:Nat}{v:Value}(hk:j<k)(h:A.eval (.tmp j)=v):(mkA A (dS k) x).tmps[j]?.getD Uz=v:=by
 have h':=a3j (a:=A) (D:=dS k) (x:=x) (k:=j) (by simp[dS];omega)
 rw[h,Act.eval,Array.getD_eq_getD_getElem?] at h'
 exact h'
theorem a0v{op:Oper}{x:Operand}{a:Act}{V:Wq}{g o:Nat}{f:Fr}{aK:Option Addr}{cK:Nat}(ho:op.op=.load 47 x)(hx:a.eval x=.pointer (some ⟨g,o,none⟩))(h:V.rangeAt g o (f.enc aK cK)):(execOp a.eval op).run Pg V=.ok (.value (.agg #[O J f.c.kind,O J f.c.a,O J f.c.b,O J f.c.time,O J f.c.bk,O J f.c.slot,O J f.pl,O J f.cur,O J f.prev,O J f.slot,O J f.n,Y aK f.keys.length cK,.bool f.done,O J f.e])) V:=by
 unfold execOp
 simp only[ho,hx,Instr.loadAt,Instr.sureAddr,Sem.run_bind,Sem.run_pure,Result.andThen_ok,run_loadVar_mid V g o 47 (f.enc aK cK) _ h Tryz.underlying47 rfl (by kernel_rfl)]
 rfl
theorem b0a{P:Program}{op:Oper}{a:Act}{w:Wq}{K:Act->Wq->Prop}{Q:Exit->Act->Wq->Prop}{f:Nat}{args:Array Value}(hr:(execOp a.eval op).run P w=.ok (.enter f args) w)(h:Calls P f args w fun e w'=>∃ v,e=.returned v/\K (a.put op.dst v) w'):op.wp P a w K Q:=by
 unfold Oper.wp
 rw[hr]
 refine h.mono ?_
 rintro e w' ⟨v,rfl,hk⟩
 exact hk
theorem hr_lt{W:Wq}{g o:Nat}{f:Fr}{aK:Option Addr}{cK:Nat}(h:W.rangeAt g o (f.enc aK cK)):g<W.heap.size:=cell_lt (h 0 _ rfl)
theorem a9e{Q:Exit->Act->Wq->Prop}{A:Act}{W:Wq}{id k F:Nat}{s:String}{B g o:Nat}{ti:Int}{f G:Fr}{aK:Option Addr}{cK:Nat}{Φ:Option Addr->Nat->Wq->Prop}(hk:(k=178/\F=70)\/(k=191/\F=71)\/(k=127/\F=74))(hsz:A.tmps.size=263)(e2:A.eval (.tmp 2)=.pointer (some ⟨B,0,none⟩))(e3:A.eval (.tmp 3)=.pointer (some ⟨B+1,0,none⟩))(e7:A.eval (.tmp 7)=.pointer (some ⟨g,o,none⟩))
  (hx:W.cell? ⟨B+1,0,none⟩=some (O J ti)) (hr:W.rangeAt g (o+1) (f.enc aK cK))
  (hC:∀ V,Below W.heap.size W V->Calls Pg F #[.pointer (some ⟨B,0,none⟩),.agg #[O J f.c.kind,O J f.c.a,O J f.c.b,O J f.c.time,O J f.c.bk,O J f.c.slot,O J f.pl,O J f.cur,O J f.prev,O J f.slot,O J f.n,Y aK f.keys.length cK,.bool f.done,O J f.e],O J ti] V fun e w'=>∃ a c,e=.returned (.agg #[O J G.c.kind,O J G.c.a,O J G.c.b,O J G.c.time,O J G.c.bk,O J G.c.slot,O J G.pl,O J G.cur,O J G.prev,O J G.slot,O J G.n,Y a G.keys.length c,.bool G.done,O J G.e])/\Φ a c w')
  (ht:∀ a c w',Φ a c w'->w'.there g (o+1) 14)
  (fin:∀ x a c w',Φ a c w'->Q .normal (mkA A (dS k) x) (w'.setCells g (o+1) (G.enc a c))):(Code.region id (b3u k F s) true).wp Pg Q A W:=by
 have hF:∀ args V,(callFunc F args).run Pg V=.ok (.enter F args) V:=by rcases hk with ⟨rfl,rfl⟩|⟨rfl,rfl⟩|⟨rfl,rfl⟩ <;> exact fun _ _=>by kernel_rfl
 refine I5 (by kernel_rfl) (dS k ++ [1000]) (dS k) [8,11] [1,0,1,1,1,0,1,0,0,2,1,0]
  [.pointer (some ⟨g,o,none⟩),.pointer (some ⟨B,0,none⟩),.pointer (some ⟨g,o,none⟩),.pointer (some ⟨g,o,none⟩),.pointer (some ⟨g,o+1,none⟩),.agg #[O J f.c.kind,O J f.c.a,O J f.c.b,O J f.c.time,O J f.c.bk,O J f.c.slot,O J f.pl,O J f.cur,O J f.prev,O J f.slot,O J f.n,Y aK f.keys.length cK,.bool f.done,O J f.e],.pointer (some ⟨B+1,0,none⟩),O J ti,Uz,.pointer (some ⟨g,o,none⟩),.pointer (some ⟨g,o+1,none⟩),Uz]
  (fun p x V=>(p=0->Below W.heap.size W V)/\(p=1->∃ a c,x (k+8)=.agg #[O J G.c.kind,O J G.c.a,O J G.c.b,O J G.c.time,O J G.c.bk,O J G.c.slot,O J G.pl,O J G.cur,O J G.prev,O J G.slot,O J G.n,Y a G.keys.length c,.bool G.done,O J G.e]/\Φ a c V)/\(p=2->∃ a c w',Φ a c w'/\V=w'.setCells g (o+1) (G.enc a c))) ?_ (fun V h _=>⟨fun _=>h,(fun h=>by cases h),(fun h=>by cases h)⟩) ?_ ?_ ?_ ?_
 ·rcases hk with ⟨rfl,rfl⟩|⟨rfl,rfl⟩|⟨rfl,rfl⟩ <;> kernel_rfl
 ·rintro p x x' V h hp
  have h8:x' (k+8)=x (k+8):=h 0 (by decide)
  exact⟨hp.1,fun e=>by rw[h8];exact hp.2.1 e,hp.2.2⟩
 ·intro i hi hic p x V hp hΩ hd o' ho
  have hi:i<12:=hi
  have hk2:7<k/\k+10<263:=by omega
  have n8:i≠8/\i≠11:=⟨fun e=>hic (by simp[e]),fun e=>hic (by simp[e])⟩
  have E2:=evO x (by omega:2<k) e2
  have E3:=evO x (by omega:3<k) e3
  have E7:=evO x (by omega:7<k) e7
  have ev:=evS x hsz hk2.2
  generalize mkA A (dS k) x=A' at *
  have:i=0\/i=1\/i=2\/i=3\/i=4\/i=5\/i=6\/i=7\/i=9\/i=10:=by omega
  have hb:i=5\/i=7->Below W.heap.size W V:=fun h=>by
   obtain rfl:p=0:=Nat.le_zero.1 (by rcases h with rfl|rfl <;> exact hp)
   exact hΩ.1 rfl
  rcases this with rfl|rfl|rfl|rfl|rfl|rfl|rfl|rfl|rfl|rfl
  all_goals
   simp only[b3u,List.getElem?_toArray,List.getElem?_cons_zero,List.getElem?_cons_succ,Option.some.injEq] at ho
   subst ho
  ·simp[execOp,go_sem,E7]
  ·simp[execOp,go_sem,E2]
  ·simp[execOp,go_sem,E7]
  ·have:=(ev 2 (by decide)).trans (hd 2 (by decide) (by show 2<12;decide) (by kernel_rfl))
   simp[execOp,go_sem,this]
  ·have:=(ev 3 (by decide)).trans (hd 3 (by decide) (by show 3<12;decide) (by kernel_rfl))
   simp[execOp,go_sem,this]
  ·have:=(ev 4 (by decide)).trans (hd 4 (by decide) (by show 4<12;decide) (by kernel_rfl))
   have hr':V.rangeAt g (o+1) (f.enc aK cK):=Dp hr (hb (.inl rfl)) (hr_lt hr)
   exact a0v rfl (by rw[Act.eval,Array.getD_eq_getD_getElem?];exact this) hr'
  ·simp[execOp,go_sem,E3]
  ·have:=(ev 6 (by decide)).trans (hd 6 (by decide) (by show 6<12;decide) (by kernel_rfl))
   have hx':=((Bv (hb (.inr rfl))).1 _ _ (cell_lt hx)).trans hx
   simp[execOp,go_sem,this,hx']
  ·have:=(ev 0 (by decide)).trans (hd 0 (by decide) (by show 0<12;decide) (by kernel_rfl))
   rw[Nat.add_zero] at this
   simp[execOp,go_sem,this]
  ·have:=(ev 9 (by decide)).trans (hd 9 (by decide) (by show 9<12;decide) (by kernel_rfl))
   simp[execOp,go_sem,this]
 ·intro q hq x V hΩ hd o' ho
  have hq:q<2:=hq
  have hk2:7<k/\k+10<263:=by omega
  have ev:=evS x hsz hk2.2
  obtain rfl|rfl:q=0\/q=1:=by omega
  all_goals
   simp only[b3u,List.getD_cons_zero,List.getD_cons_succ,List.getElem?_toArray,List.getElem?_cons_zero,List.getElem?_cons_succ,Option.some.injEq] at ho
   subst ho
  ·have h1:=(ev 1 (by decide)).trans (hd 1 (by decide) (by show 1<12;decide) (by kernel_rfl))
   have h5:=(ev 5 (by decide)).trans (hd 5 (by decide) (by show 5<12;decide) (by kernel_rfl))
   have h7:=(ev 7 (by decide)).trans (hd 7 (by decide) (by show 7<12;decide) (by kernel_rfl))
   generalize mkA A (dS k) x=A' at *
   refine b0a (f:=F) (args:=#[.pointer (some ⟨B,0,none⟩),.agg #[O J f.c.kind,O J f.c.a,O J f.c.b,O J f.c.time,O J f.c.bk,O J f.c.slot,O J f.pl,O J f.cur,O J f.prev,O J f.slot,O J f.n,Y aK f.keys.length cK,.bool f.done,O J f.e],O J ti]) (by simp[go_sem,h1,h5,h7,hF]) ((hC V (hΩ.1 rfl)).mono ?_)
   rintro e w' ⟨a,c,he,h⟩
   refine⟨.agg #[O J G.c.kind,O J G.c.a,O J G.c.b,O J G.c.time,O J G.c.bk,O J G.c.slot,O J G.pl,O J G.cur,O J G.prev,O J G.slot,O J G.n,Y a G.keys.length c,.bool G.done,O J G.e],he,.agg #[O J G.c.kind,O J G.c.a,O J G.c.b,O J G.c.time,O J G.c.bk,O J G.c.slot,O J G.pl,O J G.cur,O J G.prev,O J G.slot,O J G.n,Y a G.keys.length c,.bool G.done,O J G.e],rfl,(fun h=>by cases h),fun _=>⟨a,c,?_,h⟩,(fun h=>by cases h)⟩
   show Di x (k+8) _ (k+8)=_
   simp[Di]
  ·have h10:=(ev 10 (by decide)).trans (hd 10 (by decide) (by show 10<12;decide) (by kernel_rfl))
   have h8:=ev 8 (by decide)
   have hΩ1:=hΩ.2.1 rfl
   generalize mkA A (dS k) x=A' at *
   refine Exists.elim hΩ1 fun a h1=>?_
   refine Exists.elim h1 fun c h2=>?_
   exact wp_store_mid 47 (.tmp (k+10)) (.tmp (k+8)) rfl g (o+1) #[O J G.c.kind,O J G.c.a,O J G.c.b,O J G.c.time,O J G.c.bk,O J G.c.slot,O J G.pl,O J G.cur,O J G.prev,O J G.slot,O J G.n,Y a G.keys.length c,.bool G.done,O J G.e] (by rw[Act.eval,Array.getD_eq_getD_getElem?];exact h10) (by rw[Act.eval,Array.getD_eq_getD_getElem?];exact h8.trans h2.1) (ht a c V h2.2) (by kernel_rfl) (by kernel_rfl) ⟨Uz,rfl,(fun h=>by cases h),(fun h=>by cases h),fun _=>⟨a,c,V,h2.2,rfl⟩⟩
 ·rintro x V hΩ -
  obtain⟨a,c,w',h,rfl⟩:=hΩ.2.2 rfl
  exact fin x a c w' h
end
section
def a6q(W:Wq)(n0 B:Nat)(aS aH aF aL:Option Addr)(g n cT:Nat)(aK:Option Addr)(G:Fr)(N:Mm)(a:Option Addr)(c:Nat)(w':Wq):Prop :=
 Am w' a c G.keys/\(∀ ad,a=some ad->aK=some ad\/W.heap.size<=ad.block)/\Has (Xw (some ⟨g,0,none⟩) n cT) w' B n0 (Up W (Ac B aS aH aF aL)) N/\Fine W w' (Ac B aS aH aF aL)
theorem Y9{W V w':Wq}{n0 B:Nat}{aS aH aF aL:Option Addr}{g n cT:Nat}{aK a:Option Addr}{c:Nat}{G:Fr}{N:Mm}(hb:Below W.heap.size W V)(h1:Am w' a c G.keys)(h2:∀ ad,a=some ad->aK=some ad\/V.heap.size<=ad.block)(h3:Has (Xw (some ⟨g,0,none⟩) n cT) w' B n0 (Up V (Ac B aS aH aF aL)) N)(h4:Fine V w' (Ac B aS aH aF aL)):a6q W n0 B aS aH aF aL g n cT aK G N a c w' :=
 ⟨h1,fun ad e=>(h2 ad e).imp id (Nat.le_trans hb.size),h3.mono fun k _ h=>h.imp id (Nat.le_trans hb.size),(Fine.of_below _ hb).trans h4 fun _ _ h=>h⟩
section
variable {w W3:Wq} {n0 lo2:Nat} {aS aH aF aL:Option Addr} {cS cH cF cL g cT n:Nat} {M:Mm} {l:List (Tk × TkV)} {x:Pk} {B lo:Nat}
theorem a1l(h:WM W3 n0 B lo lo2 aS aH aF aL cS cH cF cL M g cT n l){i:Nat}(hi:i<l.length){G:Fr}{N:Mm}{a:Option Addr}{c:Nat}{w':Wq}(hp:a6q W3 lo B aS aH aF aL g n cT l[i].2.aK G N a c w') :
  w'.there g (i*16+1) 14/\Bo (w'.setCells g (i*16+1) (G.enc a c)) lo2 g cT (l.set i (⟨l[i].1.busy,G,l[i].1.held⟩,⟨a,c,l[i].2.aH,l[i].2.cH⟩))/\Has (Xw (some ⟨g,0,none⟩) n cT) (w'.setCells g (i*16+1) (G.enc a c)) B lo (Up W3 (Ac B aS aH aF aL)) N/\Fine W3 (w'.setCells g (i*16+1) (G.enc a c)) (fun k=>Ac B aS aH aF aL k\/TB g l k):=by
 obtain⟨h1,h2,h3,h4⟩:=hp
 have hpi:=List.getElem_mem hi
 have hgz:=h.t.glo
 have T:=h.t.fine h4 h.ap
 refine⟨T.there hi (by decide),T.a2c hi G a c h1 (fun ad e=>?_) (fun _ ad e=>?_) (fun _ q hq y b hy hb=>?_),h3.same (by rw[setCells_size];exact Nat.le_refl _) fun k _ hk=>Ad ?_ _ _ _,Gw (h4.mono fun k hk=>.inl hk) (.inl (.inr (.inl rfl)))⟩
 ·rcases h2 ad e with h'|h'
  ·exact h.t.klo _ hpi ad h'
  ·omega
 ·rcases h2 ad e with h'|h'
  ·exact(h.ka _ hpi ad h').2.1
  ·omega
 ·rcases h2 y hy with h'|h'
  ·exact(h.ka _ hpi y h').2.2 q hq b hb
  ·have:=(h.t.hlo hq hb).2;omega
 ·rintro rfl
  rcases hk with hk|hk
  ·exact h.ap _ hk (.inl rfl)
  ·omega
theorem Rk(h:WM W3 n0 B lo lo2 aS aH aF aL cS cH cF cL M g cT n l){i:Nat}(hi:i<l.length){G:Fr}{H:List Int}{v:TkV}{N:Mm}{V:Wq}{b:Bool}(T:Bo V lo2 g cT (l.set i (⟨b,G,H⟩,v)))(HH:Has (Xw (some ⟨g,0,none⟩) n cT) V B lo (Up W3 (Ac B aS aH aF aL)) N)(hf:Kept W3 V B n0) :
  V.cell? ⟨g,i*16+1+12,none⟩=some (.bool G.done)/\V.cell? ⟨g,i*16,none⟩=some (.bool b)/\V.frozen? ⟨g,i*16,none⟩=false/\g<V.heap.size /\
  WP n0 B ⟨N,(l.map (·.1)).set i ⟨!G.done,G,H⟩⟩ W3 (V.setCell ⟨g,i*16,none⟩ (.bool (!G.done))):=by
 have hil:i<(l.set i (⟨b,G,H⟩,v)).length:=by rw[List.length_set];exact hi
 have hel:(l.set i (⟨b,G,H⟩,v))[i]'hil=(⟨b,G,H⟩,v):=List.getElem_set_self ..
 have hgz:=h.t.glo
 have c13:=T.cell (q:=13) hil (by decide)
 have cb:=T.busy hil
 have T2:=T.setB hil (!G.done)
 rw[hel] at c13 cb
 rw[hel,List.set_set] at T2
 refine⟨c13,cb.1,cb.2,T.glo.2,U6 (HH.same (by rw[World.size_setCell];exact Nat.le_refl _) fun k _ hk=>Below.heap_setCell _ _ _ _ ?_) T2 (by rw[List.length_set];exact h.len) h.hlo h.hlo2 ⟨hf.os,hf.tape,hf.output,by rw[World.size_setCell];exact hf.size,fun k hk hne=>(Below.heap_setCell _ _ _ _ ?_).trans (hf.block k hk hne)⟩ (by rw[List.map_set])⟩
 ·dsimp only
  rintro rfl
  rcases hk with hk|hk
  ·exact h.ap _ hk (.inl rfl)
  ·omega
 ·dsimp only
  have:=h.hlo2
  omega
theorem a8o(h:WM W3 n0 B lo lo2 aS aH aF aL cS cH cF cL M g cT n l)(hM:Ok M){i:Nat}(hi:i<l.length)(hf:Fit M l[i].1.f){F:Nat}(hk:(l[i].1.f.c.kind=2/\F=70)\/(l[i].1.f.c.kind=3/\F=71)\/((l[i].1.f.c.kind=4\/l[i].1.f.c.kind=5)/\F=74)) :
  ∃ G N,stepT M i l[i].1=(N,⟨!G.done,G,l[i].1.held⟩)/\∀ V,Below W3.heap.size W3 V->Calls Pg F #[.pointer (some ⟨B,0,none⟩),.agg #[O J ((l[i].1.f).c).kind,O J ((l[i].1.f).c).a,O J ((l[i].1.f).c).b,O J ((l[i].1.f).c).time,O J ((l[i].1.f).c).bk,O J ((l[i].1.f).c).slot,O J (l[i].1.f).pl,O J (l[i].1.f).cur,O J (l[i].1.f).prev,O J (l[i].1.f).slot,O J (l[i].1.f).n,Y (l[i].2.aK) (l[i].1.f).keys.length (l[i].2.cK),.bool (l[i].1.f).done,O J (l[i].1.f).e],O J (i:Int)] V fun e w'=>∃ a c,e=.returned (.agg #[O J G.c.kind,O J G.c.a,O J G.c.b,O J G.c.time,O J G.c.bk,O J G.c.slot,O J G.pl,O J G.cur,O J G.prev,O J G.slot,O J G.n,Y a G.keys.length c,.bool G.done,O J G.e])/\a6q W3 lo B aS aH aF aL g n cT l[i].2.aK G N a c w':=by
 have hpi:=List.getElem_mem hi
 have hr:∀ V,Below W3.heap.size W3 V->Am V l[i].2.aK l[i].2.cK l[i].1.f.keys:=fun V hb=>(h.t.keys _ hpi).below hb
 have hz:∀ ad,l[i].2.aK=some ad->¬ Ac B aS aH aF aL ad.block:=fun ad e h'=>h.ap _ h' (.inr (.inr ⟨_,hpi,ad,e,rfl⟩))
 rcases hk with ⟨hk,rfl⟩|⟨hk,rfl⟩|⟨hk,rfl⟩
 ·refine⟨adF M l[i].1.f,adM i M l[i].1.f,by unfold stepT;rw[if_neg (by omega),if_pos hk];rfl,fun V hb=>(a8x (i:Int) M _ B lo aS aH aF aL cS cH cF cL _ _ V (h.m.below hb) hM hf hk (hr V hb) hz).mono ?_⟩
  rintro e w' ⟨⟨a,c,h1,h2,h3,-⟩,h4,h5⟩
  exact⟨a,c,h1,Y9 hb h2 h3 h4 h5⟩
 ·refine⟨drF M l[i].1.f,drM i M l[i].1.f,by unfold stepT;rw[if_neg (by omega),if_neg (by omega),if_pos hk];rfl,fun V hb=>(a9d (i:Int) M _ B lo aS aH aF aL cS cH cF cL _ _ V (h.m.below hb) hM hf hk (hr V hb) hz).mono ?_⟩
  rintro e w' ⟨⟨a,c,h1,h2,h3,-⟩,h4,h5⟩
  exact⟨a,c,h1,Y9 hb h2 h3 h4 h5⟩
 ·refine⟨swF M l[i].1.f,swM i M l[i].1.f,by unfold stepT;rw[if_neg (by omega),if_neg (by omega),if_neg (by omega),if_neg (by omega)];rfl,fun V hb=>(a9k (i:Int) M _ B lo aS aH aF aL cS cH cF cL _ _ V (h.m.below hb) hM hf hk (hr V hb) hz).mono ?_⟩
  rintro e w' ⟨h0,h4,h5⟩
  obtain⟨a,c,h1,h2,h3⟩:=h0.three (Yf hf)
  exact⟨a,c,h1,Y9 hb h2 h3 h4 h5⟩
theorem Vq{i F:Nat}(h:PkH w W3 n0 lo2 aS aH aF aL cS cH cF cL g cT n M l x)(ht:x.tick=false)(hx:x.task=i)(hi:i<l.length)(hs:x.step=true)(hb:l[i].1.busy=true)(hf:Fit M l[i].1.f)(hk:(l[i].1.f.c.kind=2/\F=70)\/(l[i].1.f.c.kind=3/\F=71)\/((l[i].1.f.c.kind=4\/l[i].1.f.c.kind=5)/\F=74))(hE:Hid (doE ⟨M,l.map (·.1)⟩ x=0))(hW:Hid (doW ⟨M,l.map (·.1)⟩ x=⟨(stepT M i l[i].1).1,(l.map (·.1)).set i (stepT M i l[i].1).2⟩))(v0 v1 v11 v12:Value) :
  Code.wp Pg (H9 (H9 (H9 (Tryz.f22.body.getD .skip)))) (bodyPost Pg Tryz.f22 (Iw w ⟨M,l.map (·.1)⟩ x)) (Np w.heap.size v0 v1 v11 v12) W3:=by
 obtain⟨G,N,hst,hC⟩:=a8o h.wm h.ok hi hf hk
 have HC:Hid (∀ V,Below W3.heap.size W3 V->Calls Pg F #[.pointer (some ⟨w.heap.size,0,none⟩),.agg #[O J ((l[i].1.f).c).kind,O J ((l[i].1.f).c).a,O J ((l[i].1.f).c).b,O J ((l[i].1.f).c).time,O J ((l[i].1.f).c).bk,O J ((l[i].1.f).c).slot,O J (l[i].1.f).pl,O J (l[i].1.f).cur,O J (l[i].1.f).prev,O J (l[i].1.f).slot,O J (l[i].1.f).n,Y (l[i].2.aK) (l[i].1.f).keys.length (l[i].2.cK),.bool (l[i].1.f).done,O J (l[i].1.f).e],O J (i:Int)] V fun e w'=>∃ a c,e=.returned (.agg #[O J G.c.kind,O J G.c.a,O J G.c.b,O J G.c.time,O J G.c.bk,O J G.c.slot,O J G.pl,O J G.cur,O J G.prev,O J G.slot,O J G.n,Y a G.keys.length c,.bool G.done,O J G.e])/\a6q W3 n0 w.heap.size aS aH aF aL g n cT l[i].2.aK G N a c w'):=hC
 have hW2:Hid (doW ⟨M,l.map (·.1)⟩ x=⟨N,(l.map (·.1)).set i ⟨!G.done,G,l[i].1.held⟩⟩):=by show _=_;rw[hW.out,hst]
 obtain⟨x0,x1,x2,x3,x4,x5,x6,x7,x8,xs⟩:=P6 h.bx
 obtain⟨q0,q1,q2,q3,q4,q5,qs⟩:=Bc h.wm.m.box
 have d0:=(h.wm.t.busy hi).1
 have d1:W3.cell? ⟨g,i*16+1,none⟩=_:=h.wm.t.cell (q:=1) hi (by decide)
 have lF:Hid (W3.rangeAt g (i*16+1) (l[i].1.f.enc l[i].2.aK l[i].2.cK)):=h.wm.t.Q7 hi
 have HP:Hid (PkH w W3 n0 lo2 aS aH aF aL cS cH cF cL g cT n M l x):=h
 rw[hb] at d0
 rw[ht] at x2
 rw[hs] at x1
 rw[hx] at x0
 have hn:(i:Int)<(n:Int):=by have:=h.wm.len;omega
 have hn5:n<=5:=by rw[<- h.wm.len];exact h.wm.t.few
 have Hhk:=hk
 clear hC hst hW h ht hs hx hb hf hk
 unfold Np
 conv=>arg 2;whnf
 obtain⟨kd,hkd⟩:∃ kd,kd=l[i].1.f.c.kind:=⟨_,rfl⟩
 rw[<- hkd] at Hhk
 have d1':W3.cell? ⟨g,i*16+1,none⟩=some (O J kd):=by rw[hkd];exact d1
 clear d1
 rcases Hhk with ⟨rfl,rfl⟩|⟨rfl,rfl⟩|⟨rfl|rfl,rfl⟩
 all_goals
  go_wp2_with fail
  refine a9e (by omega) rfl rfl rfl rfl x0 lF.out HC.out (fun a c V hp=>(a1l HP.out.wm hi hp).1) fun y a c V hp=>?_
  obtain⟨-,T4,H4,F4⟩:=a1l HP.out.wm hi hp
  have K4:=HP.out.wm.kept F4
  obtain⟨c13,cb,cf,cg,hwp⟩:=Rk HP.out.wm hi T4 H4 K4
  obtain⟨c0,c1,c2,c3,c4,c5,r6,t6,o6,b6,hQ⟩:=N9 hwp HP.out.bz HP.out.big HP.out.bel hE.out hW2.out.symm
  have R6:Hid _:=r6
  have T6:Hid _:=t6
  have HQ:Hid _:=hQ
  obtain⟨z0,z1,z2,z3,z4,z5,zs⟩:=Bc b6
  simp only[mkA,dS,List.foldl_cons,List.foldl_nil,Act.put,List.setIfInBounds_toArray,Nat.reduceAdd,List.set_cons_succ,List.set_cons_zero]
  clear r6 t6 hQ hwp K4 T4 H4 F4 hp HC lF HP hE hW2 x0 x1 x2 x3 x4 x5 x6 x7 x8 q0 q1 q2 q3 q4 q5 d0 d1'
  generalize V.setCells g (i*16+1) (G.enc a c)=W4 at *
  go_wp2_with (first|(refine Ha rfl _ rfl rfl R6.out ?_;clear R6)|(refine Gz rfl _ _ rfl rfl rfl T6.out o6 ?_;clear T6))
  generalize (W4.setCell ⟨g,i*16,none⟩ (.bool (!G.done))).setCells (w.heap.size+1+1) 0 [c0,c1,c2,c3,c4,c5]=W6 at *
  refine bodyPost_ret (v:=.tuple #[.agg #[c0,c1,c2,c3,c4,c5],O J 0]) (by simp[results,Tryz.results22,go_sem,z0,z1,z2,z3,z4,z5]) rfl HQ.out
end
end
section
theorem Wl{P:Program}{op:Oper}{a:Act}{w w':Wq}{v:Value}{K:Act->Wq->Prop}{Q:Exit->Act->Wq->Prop}(hr:(execOp a.eval op).run P w=.ok (.value v) w')(h:K (a.put op.dst v) w'):op.wp P a w K Q:=by
 unfold Oper.wp
 rw[hr]
 exact h
theorem wp_skip{P:Program}{op:Oper}{a:Act}{w w':Wq}{K:Act->Wq->Prop}{Q:Exit->Act->Wq->Prop}(hr:(execOp a.eval op).run P w=.ok .skip w')(h:K (a.put op.dst Uz) w'):op.wp P a w K Q:=by
 unfold Oper.wp
 rw[hr]
 exact h
theorem b3y{w V w2:Wq}{n0 B lo lo2:Nat}{aS aH aF aL:Option Addr}{cS cH cF cL:Nat}{M N:Mm}{g cT n i g2 cap2:Nat}{l:List (Tk × TkV)}{F:Fr}{H:List Int}{a:Option Addr}{c:Nat}{o:Obj}{b:Bool}{s:Int}(h:WM w n0 B lo lo2 aS aH aF aL cS cH cF cL M g cT n l)(hi:i<l.length)
  (T:Bo V lo2 g cT (l.set i (⟨b,F,H⟩,⟨a,c,l[i].2.aH,l[i].2.cH⟩))) (HH:Has (Xw (some ⟨g,0,none⟩) n cT) V B lo (Up w (Ac B aS aH aF aL)) N) (hf:Fine w V (fun k=>Ac B aS aH aF aL k\/TB g l k))
  (ho:w2.ownsRow lo2 3 1 (Y (some ⟨g2,0,none⟩) (H.length+1) cap2) (H.length+1) (encI H ++ [O J s])) (hg:(V.alloc o).grownBy w2 (Value.slice l[i].2.aH H.length l[i].2.cH).ownBlock)
  (hl:(some g2:Option Nat)=(Value.slice l[i].2.aH H.length l[i].2.cH).ownBlock\/some g2=some (V.alloc o).heap.size) (hn:H.length<=100) :
  Bo (w2.setCell ⟨g,i*16+15,none⟩ (Y (some ⟨g2,0,none⟩) (H.length+1) cap2)) lo2 g cT (l.set i (⟨b,F,H ++ [s]⟩,⟨a,c,some ⟨g2,0,none⟩,cap2⟩))/\Has (Xw (some ⟨g,0,none⟩) n cT) (w2.setCell ⟨g,i*16+15,none⟩ (Y (some ⟨g2,0,none⟩) (H.length+1) cap2)) B lo (Up w (Ac B aS aH aF aL)) N/\Kept w (w2.setCell ⟨g,i*16+15,none⟩ (Y (some ⟨g2,0,none⟩) (H.length+1) cap2)) B n0:=by
 have hpi:=List.getElem_mem hi
 have hbk:∀ k,k<V.heap.size->(∀ ad,l[i].2.aH=some ad->k≠ad.block)->w2.heap[k]?=V.heap[k]?:=fun k hk hne=>by
  refine(hg.block k (by simp;omega) (fun e=>?_)).trans (Below.heap_alloc _ _ _ hk)
  cases ha:l[i].2.aH with
  | none=>rw[ha] at e;cases e
  | some ad=>rw[ha] at e;injection e with e;exact hne ad ha e
 have hi3:i<(l.set i (⟨b,F,H⟩,(⟨a,c,l[i].2.aH,l[i].2.cH⟩:TkV))).length:=by rw[List.length_set];exact hi
 have he3:(l.set i (⟨b,F,H⟩,(⟨a,c,l[i].2.aH,l[i].2.cH⟩:TkV)))[i]'hi3=(⟨b,F,H⟩,⟨a,c,l[i].2.aH,l[i].2.cH⟩):=List.getElem_set_self ..
 have hz:(V.alloc o).heap.size=V.heap.size+1:=by simp
 have T4:=T.setH (w1:=w2) hi3 (H ++ [s]) (some ⟨g2,0,none⟩) cap2 (by simp;omega) (by
  rw[show (H ++ [s]).length=H.length+1 by simp,show encI (H ++ [s])=encI H ++ [O J s] by simp[encI]]
  exact ho) (by rw[he3];exact hbk) (fun x hx=>by
  rw[he3]
  injection hx with hx
  subst hx
  rcases hl with e|e
  ·cases ha:l[i].2.aH with
   | none=>rw[ha] at e;cases e
   | some ad=>rw[ha] at e;injection e with e;exact .inl ⟨ad,rfl,e⟩
  ·injection e with e
   exact .inr (by show V.heap.size<=g2;omega))
 rw[he3,List.set_set,show (H ++ [s]).length=H.length+1 by simp] at T4
 have hgz:=h.t.glo
 have hw3:w.heap.size<=V.heap.size:=hf.size
 have hset:∀ k,k≠g->(w2.setCell ⟨g,i*16+15,none⟩ (Y (some ⟨g2,0,none⟩) (H.length+1) cap2)).heap[k]?=w2.heap[k]?:=fun k hk=>Below.heap_setCell _ _ _ _ (by dsimp only;exact hk)
 refine⟨T4,HH.same (by rw[World.size_setCell];have:=hg.size;omega) fun k hk hz'=>?_,?_⟩
 ·have hne:¬ TB g l k\/w.heap.size<=k:=hz'.imp (h.ap k) id
  rw[hset k (by
   rintro rfl
   rcases hne with h'|h'
   ·exact h' (.inl rfl)
   ·omega)]
  refine hbk k hk (fun ad e=>?_)
  rintro rfl
  rcases hne with h'|h'
  ·exact h' (.inr (.inl ⟨_,hpi,ad,e,rfl⟩))
  ·have:=(h.t.hlo hpi e).2;omega
 ·have hb3:=h.kept hf
  have h1:=h.hlo2
  have hsz:=h.size
  refine⟨hg.os.trans hb3.os,hg.tape.trans hb3.tape,hg.output.trans hb3.output,by rw[World.size_setCell];have:=hg.size;omega,fun k hk hne=>?_⟩
  refine(hset k (by omega)).trans ((hbk k (by omega) (fun ad e h'=>?_)).trans (hb3.block k hk hne))
  have:=(h.t.hlo hpi e).1
  omega
def b3r(s:String):Array Oper:=#[⟨some 162,.move (.tmp 7),113,s,#[],none⟩,⟨some 163,.move (.tmp 7),113,s,#[],none⟩,⟨some 164,.nilCheck (.tmp 163),0,s,#[⟨1,.data⟩],none⟩,⟨some 165,.fieldAddr 49 (.tmp 164) 2,0,s,#[⟨2,.data⟩],none⟩,⟨some 166,.load 23 (.tmp 165),23,s,#[⟨3,.data⟩],none⟩,⟨some 167,.move (.tmp 7),113,s,#[],none⟩,⟨some 168,.nilCheck (.tmp 167),0,s,#[⟨5,.data⟩],none⟩,⟨some 169,.fieldAddr 49 (.tmp 168) 1,0,s,#[⟨6,.data⟩],none⟩,⟨some 170,.fieldAddr 47 (.tmp 169) 4,0,s,#[⟨7,.data⟩],none⟩,⟨some 171,.load 3 (.tmp 170),3,s,#[⟨8,.data⟩],none⟩,⟨some 172,.buildSlice 23 1 #[(0,.tmp 171)],23,s,#[⟨9,.data⟩],none⟩,
 ⟨some 173,.call { callee:=.builtin .append,args:=#[.tmp 166,.tmp 172],argTypes:=#[23,23] },23,s,#[⟨4,.data⟩,⟨10,.data⟩],none⟩,⟨some 174,.nilCheck (.tmp 162),0,s,#[⟨0,.data⟩,⟨0,.phase⟩,⟨1,.phase⟩,⟨2,.phase⟩,⟨3,.phase⟩,⟨4,.phase⟩,⟨5,.phase⟩,⟨6,.phase⟩,⟨7,.phase⟩,⟨8,.phase⟩,⟨9,.phase⟩,⟨10,.phase⟩,⟨11,.phase⟩],none⟩,⟨some 175,.fieldAddr 49 (.tmp 174) 2,0,s,#[⟨12,.data⟩,⟨0,.phase⟩,⟨1,.phase⟩,⟨2,.phase⟩,⟨3,.phase⟩,⟨4,.phase⟩,⟨5,.phase⟩,⟨6,.phase⟩,⟨7,.phase⟩,⟨8,.phase⟩,⟨9,.phase⟩,⟨10,.phase⟩,⟨11,.phase⟩],none⟩,
 ⟨none,.store 23 (.tmp 175) (.tmp 173),0,s,#[⟨13,.data⟩,⟨11,.data⟩,⟨11,.chain⟩,⟨0,.phase⟩,⟨1,.phase⟩,⟨2,.phase⟩,⟨3,.phase⟩,⟨4,.phase⟩,⟨5,.phase⟩,⟨6,.phase⟩,⟨7,.phase⟩,⟨8,.phase⟩,⟨9,.phase⟩,⟨10,.phase⟩,⟨11,.phase⟩],none⟩]
def dA:List Nat:=[162,163,164,165,166,167,168,169,170,171,172,173,174,175]
theorem J7{A:Act}{D:List Nat}(x:Nat->Value){k:Nat}(h:(D.contains k && decide (k<A.tmps.size))=true):(mkA A D x).tmps[k]?.getD Uz=x k:=by
 have h':=a8f (a:=A) (D:=D) (x:=x) (k:=k) h
 rwa [Act.eval,Array.getD_eq_getD_getElem?] at h'
theorem Gt{A:Act}{D:List Nat}(x:Nat->Value){k:Nat}{v:Value}(h:D.contains k=false)(hv:A.eval (.tmp k)=v):(mkA A D x).tmps[k]?.getD Uz=v:=by
 have h':=a3j (a:=A) (D:=D) (x:=x) (k:=k) h
 rw[hv,Act.eval,Array.getD_eq_getD_getElem?] at h'
 exact h'
theorem Wn(w:Wq)(v:Value)(e:TypeId):(w.alloc (.cells #[v] e)).cell? ⟨w.heap.size,0,none⟩=some v:=by
 rw[cell_of_block (heap_alloc_new w _)]
 rfl
theorem a6v{V:Wq}{lo b cD:Nat}{aD:Option Addr}{H:List Int}{s:Int}(hown:V.ownsRow lo 3 1 (Y aD H.length cD) H.length (encI H))(hb:V.cell? ⟨b,0,none⟩=some (O J s))(hn:H.length<=100)(hlo:lo<=V.heap.size) :
  ∃ g2 cap2 w',(Builtin.append_ #[23,23] 23 #[Y aD H.length cD,Y (some ⟨b,0,none⟩) 1 1]).run Pg V=.ok (Y (some ⟨g2,0,none⟩) (H.length+1) cap2) w'/\w'.ownsRow lo 3 1 (Y (some ⟨g2,0,none⟩) (H.length+1) cap2) (H.length+1) (encI H ++ [O J s])/\V.grownBy w' (Value.slice aD H.length cD).ownBlock/\((some g2:Option Nat)=(Value.slice aD H.length cD).ownBlock\/some g2=some V.heap.size):=by
 obtain⟨i0,hi0,hz0,hz1,hz2⟩:=info_parts iI
 obtain⟨v',w',hr,h2,h3,-,h5⟩:=run_append_own_at (w:=V) lo 23 23 3 i0 (O J 0) 1 8 Tryz.underlying23 hi0 hz0 hz1 hz2 rfl (by decide) _ _ _ hown ⟨b,0,none⟩ 1 1 [O J s] rfl (fun j u hj=>by
  cases j with
  | zero=>injection hj with hj;subst hj;exact hb
  | succ j=>simp at hj) (fun u hu=>by simp at hu;subst hu;rfl) (by unfold maxLen;omega) (by omega) hlo
 obtain⟨g2,cap2,rfl⟩:=ownsRow_form h2 (by omega)
 exact⟨g2,cap2,w',hr,h2,h3,h5⟩
theorem b1y{Q:Exit->Act->Wq->Prop}{A:Act}{W:Wq}{id:Nat}{st:String}{g o lo:Nat}{s:Int}{H:List Int}{aD:Option Addr}{cD:Nat}(hsz:A.tmps.size=263)(e7:A.eval (.tmp 7)=.pointer (some ⟨g,o,none⟩))
  (h15:W.cell? ⟨g,o+15,none⟩=some (Y aD H.length cD)) (z15:W.frozen? ⟨g,o+15,none⟩=false) (h10:W.cell? ⟨g,o+10,none⟩=some (O J s)) (hown:W.ownsRow lo 3 1 (Y aD H.length cD) H.length (encI H)) (hne:∀ ad,aD=some ad->ad.block≠g) (hn:H.length<=100) (hlo:lo<=W.heap.size)
  (fin:∀ x V ob w2 g2 cap2,Below W.heap.size W V->V.heap.size=W.heap.size->w2.ownsRow lo 3 1 (Y (some ⟨g2,0,none⟩) (H.length+1) cap2) (H.length+1) (encI H ++ [O J s])->(V.alloc ob).grownBy w2 (Value.slice aD H.length cD).ownBlock->((some g2:Option Nat)=(Value.slice aD H.length cD).ownBlock\/some g2=some (V.alloc ob).heap.size) ->
   Q .normal (mkA A dA x) (w2.setCell ⟨g,o+15,none⟩ (Y (some ⟨g2,0,none⟩) (H.length+1) cap2))):(Code.region id (b3r st) true).wp Pg Q A W:=by
 refine I5 (by kernel_rfl) (dA ++ [1000]) dA [10,11,14] [2,2,2,2,1,2,2,2,2,0,0,0,3,2,0]
  [.pointer (some ⟨g,o,none⟩),.pointer (some ⟨g,o,none⟩),.pointer (some ⟨g,o,none⟩),.pointer (some ⟨g,o+15,none⟩),Y aD H.length cD,.pointer (some ⟨g,o,none⟩),.pointer (some ⟨g,o,none⟩),.pointer (some ⟨g,o+1,none⟩),.pointer (some ⟨g,o+10,none⟩),O J s,Uz,Uz,.pointer (some ⟨g,o,none⟩),.pointer (some ⟨g,o+15,none⟩),Uz]
  (fun p x V=>(p=0->Below W.heap.size W V/\V.heap.size=W.heap.size)/\(p=1->∃ V0,Below W.heap.size W V0/\V0.heap.size=W.heap.size/\V=V0.alloc (.cells #[O J s] 3)/\x 172=Y (some ⟨V0.heap.size,0,none⟩) 1 1) /\
   (p=2->∃ V0 ob g2 cap2,Below W.heap.size W V0/\V0.heap.size=W.heap.size/\V.ownsRow lo 3 1 (Y (some ⟨g2,0,none⟩) (H.length+1) cap2) (H.length+1) (encI H ++ [O J s])/\(V0.alloc ob).grownBy V (Value.slice aD H.length cD).ownBlock/\((some g2:Option Nat)=(Value.slice aD H.length cD).ownBlock\/some g2=some (V0.alloc ob).heap.size)/\x 173=Y (some ⟨g2,0,none⟩) (H.length+1) cap2) /\
   (p=3->∃ V0 ob w2 g2 cap2,Below W.heap.size W V0/\V0.heap.size=W.heap.size/\w2.ownsRow lo 3 1 (Y (some ⟨g2,0,none⟩) (H.length+1) cap2) (H.length+1) (encI H ++ [O J s])/\(V0.alloc ob).grownBy w2 (Value.slice aD H.length cD).ownBlock/\((some g2:Option Nat)=(Value.slice aD H.length cD).ownBlock\/some g2=some (V0.alloc ob).heap.size)/\V=w2.setCell ⟨g,o+15,none⟩ (Y (some ⟨g2,0,none⟩) (H.length+1) cap2)))
  (by kernel_rfl) (fun V h hs=>⟨fun _=>⟨h,hs⟩,(fun h=>by cases h),(fun h=>by cases h),(fun h=>by cases h)⟩) ?_ ?_ ?_ ?_
 ·rintro p x x' V h hp
  have h1:x' 172=x 172:=h 0 (by decide)
  have h2:x' 173=x 173:=h 1 (by decide)
  exact⟨hp.1,fun e=>by rw[h1];exact hp.2.1 e,fun e=>by rw[h2];exact hp.2.2.1 e,hp.2.2.2⟩
 ·intro i hi hic p x V hp hΩ hd o' ho
  have hi:i<15:=hi
  have n8:i≠10/\i≠11/\i≠14:=⟨fun e=>hic (by simp[e]),fun e=>hic (by simp[e]),fun e=>hic (by simp[e])⟩
  have E7:=Gt (A:=A) (D:=dA) x (k:=7) rfl e7
  have ev:∀ k,(dA.contains k && decide (k<263))=true->(mkA A dA x).tmps[k]?.getD Uz=x k:=fun k h=>J7 x (by rw[hsz];exact h)
  have hc:(i=4\/i=9)->∀ q,q<W.heap.size->V.heap[q]?=W.heap[q]?:=fun h q hq=>by
   have hp1:p=0\/p=1:=by
    have:p<=1:=by rcases h with rfl|rfl;exact hp;exact Nat.le_trans hp (by decide)
    omega
   rcases hp1 with rfl|rfl
   ·exact(hΩ.1 rfl).1.block q hq
   ·obtain⟨V0,hb,hs,rfl,-⟩:=hΩ.2.1 rfl
    exact(Below.heap_alloc _ _ _ (by omega)).trans (hb.block q hq)
  generalize mkA A dA x=A' at *
  have:i=0\/i=1\/i=2\/i=3\/i=4\/i=5\/i=6\/i=7\/i=8\/i=9\/i=12\/i=13:=by omega
  rcases this with rfl|rfl|rfl|rfl|rfl|rfl|rfl|rfl|rfl|rfl|rfl|rfl
  all_goals
   simp only[b3r,List.getElem?_toArray,List.getElem?_cons_zero,List.getElem?_cons_succ,Option.some.injEq] at ho
   subst ho
  ·simp[execOp,go_sem,E7]
  ·simp[execOp,go_sem,E7]
  ·have:=(ev 163 rfl).trans (hd 1 (by decide) (by show 1<15;decide) (by kernel_rfl))
   simp[execOp,go_sem,this]
  ·have:=(ev 164 rfl).trans (hd 2 (by decide) (by show 2<15;decide) (by kernel_rfl))
   simp[execOp,go_sem,this]
  ·have:=(ev 165 rfl).trans (hd 3 (by decide) (by show 3<15;decide) (by kernel_rfl))
   have h15':=(World.cell?_of_block (a:=⟨g,o+15,none⟩) (hc (.inl rfl) g (cell_lt h15))).trans h15
   simp[execOp,go_sem,this,h15']
  ·simp[execOp,go_sem,E7]
  ·have:=(ev 167 rfl).trans (hd 5 (by decide) (by show 5<15;decide) (by kernel_rfl))
   simp[execOp,go_sem,this]
  ·have:=(ev 168 rfl).trans (hd 6 (by decide) (by show 6<15;decide) (by kernel_rfl))
   simp[execOp,go_sem,this]
  ·have:=(ev 169 rfl).trans (hd 7 (by decide) (by show 7<15;decide) (by kernel_rfl))
   simp[execOp,go_sem,this]
  ·have:=(ev 170 rfl).trans (hd 8 (by decide) (by show 8<15;decide) (by kernel_rfl))
   have h10':=(World.cell?_of_block (a:=⟨g,o+10,none⟩) (hc (.inr rfl) g (cell_lt h15))).trans h10
   simp[execOp,go_sem,this,h10']
  ·have:=(ev 162 rfl).trans (hd 0 (by decide) (by show 0<15;decide) (by kernel_rfl))
   simp[execOp,go_sem,this]
  ·have:=(ev 174 rfl).trans (hd 12 (by decide) (by show 12<15;decide) (by kernel_rfl))
   simp[execOp,go_sem,this]
 ·intro q hq x V hΩ hd o' ho
  have hq:q<3:=hq
  have ev:∀ k,(dA.contains k && decide (k<263))=true->(mkA A dA x).tmps[k]?.getD Uz=x k:=fun k h=>J7 x (by rw[hsz];exact h)
  obtain rfl|rfl|rfl:q=0\/q=1\/q=2:=by omega
  all_goals
   simp only[b3r,List.getD_cons_zero,List.getD_cons_succ,List.getElem?_toArray,List.getElem?_cons_zero,List.getElem?_cons_succ,Option.some.injEq] at ho
   subst ho
  ·have h9:=(ev 171 rfl).trans (hd 9 (by decide) (by show 9<15;decide) (by kernel_rfl))
   have hb:=hΩ.1 rfl
   generalize mkA A dA x=A' at *
   refine Wl (v:=Y (some ⟨V.heap.size,0,none⟩) 1 1) (w':=V.alloc (.cells #[O J s] 3)) (by simp[go_sem,h9]) ⟨_,rfl,(fun h=>by cases h),fun _=>⟨V,hb.1,hb.2,rfl,?_⟩,(fun h=>by cases h),(fun h=>by cases h)⟩
   show Di x 172 _ 172=_
   simp[Di]
  ·have h4:=(ev 166 rfl).trans (hd 4 (by decide) (by show 4<15;decide) (by kernel_rfl))
   have h10:=ev 172 rfl
   generalize mkA A dA x=A' at *
   refine Exists.elim (hΩ.2.1 rfl) fun V0 hV=>?_
   have hoV:V.ownsRow lo 3 1 (Y aD H.length cD) H.length (encI H):=by
    rw[hV.2.2.1]
    exact(Bj hown fun k hk=>hV.1.block k (hown.lt k hk).2).alloc _
   have hcV:V.cell? ⟨V0.heap.size,0,none⟩=some (O J s):=by
    rw[hV.2.2.1]
    exact Wn V0 _ _
   have hzV:V.heap.size=W.heap.size+1:=by rw[hV.2.2.1,<- hV.2.1];simp
   refine Exists.elim (a6v hoV hcV hn (by omega)) fun g2 h1=>?_
   refine Exists.elim h1 fun cap2 h2=>?_
   refine Exists.elim h2 fun w' h3=>?_
   refine Wl (Nw rfl (by rw[Act.eval,Array.getD_eq_getD_getElem?];exact h4) (by rw[Act.eval,Array.getD_eq_getD_getElem?];exact h10.trans hV.2.2.2) h3.1) ⟨_,rfl,(fun h=>by cases h),(fun h=>by cases h),fun _=>⟨V0,.cells #[O J s] 3,g2,cap2,hV.1,hV.2.1,h3.2.1,?_,?_,?_⟩,(fun h=>by cases h)⟩
   ·rw[<- hV.2.2.1];exact h3.2.2.1
   ·rw[<- hV.2.2.1];exact h3.2.2.2
   ·show Di x 173 _ 173=_
    simp[Di]
  ·have h13:=(ev 175 rfl).trans (hd 13 (by decide) (by show 13<15;decide) (by kernel_rfl))
   have h11:=ev 173 rfl
   generalize mkA A dA x=A' at *
   refine Exists.elim (hΩ.2.2.1 rfl) fun V0 hV=>?_
   refine Exists.elim hV fun ob hV=>?_
   refine Exists.elim hV fun g2 hV=>?_
   refine Exists.elim hV fun cap2 hV=>?_
   have hlt:=cell_lt h15
   have hblk:V.heap[g]?=W.heap[g]?:=(hV.2.2.2.1.block g (by simp;omega) (fun e=>by
    cases aD with
    | none=>cases e
    | some ad=>injection e with e;exact hne ad rfl e.symm)).trans ((Below.heap_alloc _ _ _ (by omega)).trans (hV.1.block g hlt))
   have c15:=(World.cell?_of_block (a:=⟨g,o+15,none⟩) hblk).trans h15
   have f15:=(World.frozen?_of_block (a:=⟨g,o+15,none⟩) hblk).trans z15
   have h11':=h11.trans hV.2.2.2.2.2
   exact wp_skip (w':=V.setCell ⟨g,o+15,none⟩ (Y (some ⟨g2,0,none⟩) (H.length+1) cap2)) (by simp[execOp,go_sem,h13,h11',c15,f15]) ⟨_,rfl,(fun h=>by cases h),(fun h=>by cases h),(fun h=>by cases h),fun _=>⟨V0,ob,V,g2,cap2,hV.1,hV.2.1,hV.2.2.1,hV.2.2.2.1,hV.2.2.2.2.1,rfl⟩⟩
 ·rintro x V hΩ -
  obtain⟨V0,ob,w2,g2,cap2,h1,h2,h3,h4,h5,rfl⟩:=hΩ.2.2.2 rfl
  exact fin x V0 ob w2 g2 cap2 h1 h2 h3 h4 h5
end
end Go.Proofs.YthhgoenomehobaaGreat.mm
