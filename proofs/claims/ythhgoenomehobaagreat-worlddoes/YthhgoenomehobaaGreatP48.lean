/- Parts. -/
import Derived.Test.YthhgoenomehobaaGreatP47
import Derived.Test.YthhgoenomehobaaGreatP23
namespace Go.Proofs.YthhgoenomehobaaGreat.mm
set_option maxRecDepth 100000
set_option linter.unusedVariables false
open Go.Value renaming int → O, slice → Y
open Go.IntKind renaming i64 → J
open Go.Proofs.Tryz renaming prog → Pg
open Go renaming undef → Uz, World → Wq
open Go.ChangeShapes Go.WideShapes Go.ChangeAt Go.RowKit Go.Joins Go.Deep Go.Maps
set_option maxHeartbeats 3200000
section
def b3t(s:String):Array Oper:=#[⟨some 225,.move (.tmp 7),113,s,#[],none⟩,⟨some 226,.buildSlice 23 0 #[],23,s,#[],none⟩,⟨some 227,.move (.tmp 7),113,s,#[],none⟩,⟨some 228,.nilCheck (.tmp 227),0,s,#[⟨2,.data⟩],none⟩,⟨some 229,.fieldAddr 49 (.tmp 228) 2,0,s,#[⟨3,.data⟩],none⟩,⟨some 230,.load 23 (.tmp 229),23,s,#[⟨4,.data⟩],none⟩,⟨some 231,.move (.tmp 9),3,s,#[],none⟩,⟨some 232,.slice 23 (.tmp 230) none (some (.tmp 231)) none,23,s,#[⟨5,.data⟩,⟨6,.data⟩],none⟩,⟨some 233,.call { callee:=.builtin .append,args:=#[.tmp 226,.tmp 232],argTypes:=#[23,23] },23,s,#[⟨1,.data⟩,⟨7,.data⟩],none⟩,⟨some 234,.move (.tmp 7),113,s,#[],none⟩,⟨some 235,.nilCheck (.tmp 234),0,s,#[⟨9,.data⟩],none⟩,⟨some 236,.fieldAddr 49 (.tmp 235) 2,0,s,#[⟨10,.data⟩],none⟩,⟨some 237,.load 23 (.tmp 236),23,s,#[⟨11,.data⟩],none⟩,⟨some 238,.move (.tmp 9),3,s,#[],none⟩,⟨some 239,.binOp .add 3 (.tmp 238) (.const (O J 1)) 3,3,s,#[⟨13,.data⟩],none⟩,⟨some 240,.slice 23 (.tmp 237) (some (.tmp 239)) none none,23,s,#[⟨12,.data⟩,⟨14,.data⟩],none⟩,⟨some 241,.call { callee:=.builtin .append,args:=#[.tmp 233,.tmp 240],argTypes:=#[23,23] },23,s,#[⟨8,.data⟩,⟨15,.data⟩,⟨8,.chain⟩],none⟩,⟨some 242,.nilCheck (.tmp 225),0,s,#[⟨0,.data⟩,⟨0,.phase⟩,⟨1,.phase⟩,⟨2,.phase⟩,⟨3,.phase⟩,⟨4,.phase⟩,⟨5,.phase⟩,⟨6,.phase⟩,⟨7,.phase⟩,⟨8,.phase⟩,⟨9,.phase⟩,⟨10,.phase⟩,⟨11,.phase⟩,⟨12,.phase⟩,⟨13,.phase⟩,⟨14,.phase⟩,⟨15,.phase⟩,⟨16,.phase⟩],none⟩,⟨some 243,.fieldAddr 49 (.tmp 242) 2,0,s,#[⟨17,.data⟩,⟨0,.phase⟩,⟨1,.phase⟩,⟨2,.phase⟩,⟨3,.phase⟩,⟨4,.phase⟩,⟨5,.phase⟩,⟨6,.phase⟩,⟨7,.phase⟩,⟨8,.phase⟩,⟨9,.phase⟩,⟨10,.phase⟩,⟨11,.phase⟩,⟨12,.phase⟩,⟨13,.phase⟩,⟨14,.phase⟩,⟨15,.phase⟩,⟨16,.phase⟩],none⟩,⟨none,.store 23 (.tmp 243) (.tmp 241),0,s,#[⟨18,.data⟩,⟨16,.data⟩,⟨16,.chain⟩,⟨0,.phase⟩,⟨1,.phase⟩,⟨2,.phase⟩,⟨3,.phase⟩,⟨4,.phase⟩,⟨5,.phase⟩,⟨6,.phase⟩,⟨7,.phase⟩,⟨8,.phase⟩,⟨9,.phase⟩,⟨10,.phase⟩,⟨11,.phase⟩,⟨12,.phase⟩,⟨13,.phase⟩,⟨14,.phase⟩,⟨15,.phase⟩,⟨16,.phase⟩],none⟩]
def dD:List Nat:=[225,226,227,228,229,230,231,232,233,234,235,236,237,238,239,240,241,242,243]
theorem b2c{Q:Exit->Act->Wq->Prop}{A:Act}{W:Wq}{id:Nat}{st:String}{g o gh k:Nat}{H:List Int}{cD:Nat}(hsz:A.tmps.size=263)(e7:A.eval (.tmp 7)=.pointer (some ⟨g,o,none⟩))(e9:A.eval (.tmp 9)=O J (k:Int))
  (h15:W.cell? ⟨g,o+15,none⟩=some (Y (some ⟨gh,0,none⟩) H.length cD)) (z15:W.frozen? ⟨g,o+15,none⟩=false) (hr:∀ j (h:j<H.length),W.cell? ⟨gh,j,none⟩=some (O J H[j])) (hk:k<H.length) (hn:H.length<=100) (hcD:H.length<=cD)
  (fin:∀ x w2 aN cN,Below W.heap.size W w2->w2.ownsRow W.heap.size 3 1 (Y aN (H.eraseIdx k).length cN) (H.eraseIdx k).length (encI (H.eraseIdx k))->Q .normal (mkA A dD x) (w2.setCell ⟨g,o+15,none⟩ (Y aN (H.eraseIdx k).length cN))):(Code.region id (b3t st) true).wp Pg Q A W:=by
 refine I5 (by kernel_rfl) (dD ++ [1000]) dD [1,8,16,19] [3,0,3,3,3,3,3,1,0,3,3,3,3,3,3,2,0,4,3,0]
  [.pointer (some ⟨g,o,none⟩),Uz,.pointer (some ⟨g,o,none⟩),.pointer (some ⟨g,o,none⟩),.pointer (some ⟨g,o+15,none⟩),Y (some ⟨gh,0,none⟩) H.length cD,O J (k:Int),Y (some ⟨gh,0,none⟩) k cD,Uz,.pointer (some ⟨g,o,none⟩),.pointer (some ⟨g,o,none⟩),.pointer (some ⟨g,o+15,none⟩),Y (some ⟨gh,0,none⟩) H.length cD,O J (k:Int),O J ((k:Int)+1),Y (if cD=k+1 then some ⟨gh,0,none⟩ else some ⟨gh,k+1,none⟩) (H.length - (k+1)) (cD - (k+1)),Uz,.pointer (some ⟨g,o,none⟩),.pointer (some ⟨g,o+15,none⟩),Uz]
  (fun p x V=>(p<4->Below W.heap.size W V)/\(p=1->∃ b,x 226=Y (some ⟨b,0,none⟩) 0 0/\V.ownsRow W.heap.size 3 1 (Y (some ⟨b,0,none⟩) 0 0) 0 [])/\(p=2->V.ownsRow W.heap.size 3 1 (x 233) k (encI (H.take k))) /\
   (p=3->V.ownsRow W.heap.size 3 1 (x 241) (k+(H.length - (k+1))) (encI (H.take k)++encI (H.drop (k+1)))) /\
   (p=4->∃ w2 aN cN,Below W.heap.size W w2/\w2.ownsRow W.heap.size 3 1 (Y aN (H.eraseIdx k).length cN) (H.eraseIdx k).length (encI (H.eraseIdx k))/\V=w2.setCell ⟨g,o+15,none⟩ (Y aN (H.eraseIdx k).length cN)))
  (by kernel_rfl) (fun V h hs=>⟨fun _=>h,(fun h=>by cases h),(fun h=>by cases h),(fun h=>by cases h),(fun h=>by cases h)⟩) ?_ ?_ ?_ ?_
 ·rintro p x x' V h hp
  have h1:x' 226=x 226:=h 0 (by decide)
  have h2:x' 233=x 233:=h 1 (by decide)
  have h3:x' 241=x 241:=h 2 (by decide)
  exact⟨hp.1,fun e=>by rw[h1];exact hp.2.1 e,fun e=>by rw[h2];exact hp.2.2.1 e,fun e=>by rw[h3];exact hp.2.2.2.1 e,hp.2.2.2.2⟩
 ·intro i hi hic p x V hp hΩ hd o' ho
  have hi:i<20:=hi
  have n8:i≠1/\i≠8/\i≠16/\i≠19:=⟨fun e=>hic (by simp[e]),fun e=>hic (by simp[e]),fun e=>hic (by simp[e]),fun e=>hic (by simp[e])⟩
  have E7:=Gt (A:=A) (D:=dD) x (k:=7) rfl e7
  have E9:=Gt (A:=A) (D:=dD) x (k:=9) rfl e9
  have ev:∀ k,(dD.contains k && decide (k<263))=true->(mkA A dD x).tmps[k]?.getD Uz=x k:=fun k h=>J7 x (by rw[hsz];exact h)
  have hb:(i=5\/i=12)->V.cell? ⟨g,o+15,none⟩=some (Y (some ⟨gh,0,none⟩) H.length cD):=fun h=>by
   have:p<=3:=by rcases h with rfl|rfl <;> exact hp
   exact((Bv (hΩ.1 (by omega))).1 _ _ (cell_lt h15)).trans h15
  have hw:IntKind.i64.wrap ((k:Int)+1)=(k:Int)+1:=by rw[IntKind.wrap_i64];omega
  generalize mkA A dD x=A' at *
  have:i=0\/i=2\/i=3\/i=4\/i=5\/i=6\/i=7\/i=9\/i=10\/i=11\/i=12\/i=13\/i=14\/i=15\/i=17\/i=18:=by omega
  rcases this with rfl|rfl|rfl|rfl|rfl|rfl|rfl|rfl|rfl|rfl|rfl|rfl|rfl|rfl|rfl|rfl
  all_goals
   simp only[b3t,List.getElem?_toArray,List.getElem?_cons_zero,List.getElem?_cons_succ,Option.some.injEq] at ho
   subst ho
  ·simp[execOp,go_sem,E7]
  ·simp[execOp,go_sem,E7]
  ·have d2:=(ev 227 rfl).trans (hd 2 (by decide) (by show 2<20;decide) (by kernel_rfl))
   simp[execOp,go_sem,d2]
  ·have d3:=(ev 228 rfl).trans (hd 3 (by decide) (by show 3<20;decide) (by kernel_rfl))
   simp[execOp,go_sem,d3]
  ·have d4:=(ev 229 rfl).trans (hd 4 (by decide) (by show 4<20;decide) (by kernel_rfl))
   have c15:=hb (.inl rfl)
   simp[execOp,go_sem,d4,c15]
  ·simp[execOp,go_sem,E9]
  ·have d5:=(ev 230 rfl).trans (hd 5 (by decide) (by show 5<20;decide) (by kernel_rfl))
   have d6:=(ev 231 rfl).trans (hd 6 (by decide) (by show 6<20;decide) (by kernel_rfl))
   have kc:¬ cD<k:=by omega
   simp[execOp,go_sem,d5,d6,kc]
  ·simp[execOp,go_sem,E7]
  ·have d9:=(ev 234 rfl).trans (hd 9 (by decide) (by show 9<20;decide) (by kernel_rfl))
   simp[execOp,go_sem,d9]
  ·have d10:=(ev 235 rfl).trans (hd 10 (by decide) (by show 10<20;decide) (by kernel_rfl))
   simp[execOp,go_sem,d10]
  ·have d11:=(ev 236 rfl).trans (hd 11 (by decide) (by show 11<20;decide) (by kernel_rfl))
   have c15:=hb (.inr rfl)
   simp[execOp,go_sem,d11,c15]
  ·simp[execOp,go_sem,E9]
  ·have d13:=(ev 238 rfl).trans (hd 13 (by decide) (by show 13<20;decide) (by kernel_rfl))
   simp[execOp,go_sem,d13,hw]
  ·have d12:=(ev 237 rfl).trans (hd 12 (by decide) (by show 12<20;decide) (by kernel_rfl))
   have d14:=(ev 239 rfl).trans (hd 14 (by decide) (by show 14<20;decide) (by kernel_rfl))
   have kc:(0:Int)<=(k:Int)+1/\(k:Int)+1<=(H.length:Int):=by omega
   simp[execOp,go_sem,d12,d14,kc]
  ·have d0:=(ev 225 rfl).trans (hd 0 (by decide) (by show 0<20;decide) (by kernel_rfl))
   simp[execOp,go_sem,d0]
  ·have d17:=(ev 242 rfl).trans (hd 17 (by decide) (by show 17<20;decide) (by kernel_rfl))
   simp[execOp,go_sem,d17]
 ·intro q hq x V hΩ hd o' ho
  have hq:q<4:=hq
  have ev:∀ k,(dD.contains k && decide (k<263))=true->(mkA A dD x).tmps[k]?.getD Uz=x k:=fun k h=>J7 x (by rw[hsz];exact h)
  have hb:=hΩ.1 hq
  have hadd:∀ d j,(⟨gh,d,none⟩:Addr).add j=⟨gh,d+j,none⟩:=fun d j=>by
   rw[Addr.add]
   split
   ·rename_i h;rw[h];rfl
   ·rfl
  have hcell:∀ d j u,(encI (H.drop d))[j]?=some u->V.cell? ⟨gh,d+j,none⟩=some u:=fun d j u hj=>by
   rw[encI,List.getElem?_map,List.getElem?_drop] at hj
   obtain⟨y,hy,rfl⟩:=Option.map_eq_some_iff.1 hj
   obtain⟨h1,rfl⟩:=List.getElem?_eq_some_iff.1 hy
   exact((Bv hb).1 _ _ (cell_lt (hr _ h1))).trans (hr _ h1)
  have hcell0:∀ j u,(encI (H.take k))[j]?=some u->V.cell? ⟨gh,j,none⟩=some u:=fun j u hj=>by
   have:=hcell 0 j u (by
    rw[encI,List.getElem?_map,List.getElem?_take] at hj
    split at hj
    ·rw[encI,List.getElem?_map,List.drop_zero];exact hj
    ·cases hj)
   rwa [Nat.zero_add] at this
  obtain rfl|rfl|rfl|rfl:q=0\/q=1\/q=2\/q=3:=by omega
  all_goals
   simp only[b3t,List.getD_cons_zero,List.getD_cons_succ,List.getElem?_toArray,List.getElem?_cons_zero,List.getElem?_cons_succ,Option.some.injEq] at ho
   subst ho
  ·generalize mkA A dD x=A' at *
   refine Wl (v:=Y (some ⟨V.heap.size,0,none⟩) 0 0) (w':=V.alloc (.cells #[] 3)) (by simp only[execOp];simp[go_sem]) ⟨_,rfl,fun _=>hb.alloc hb.size _,fun _=>⟨V.heap.size,?_,Vp V 3 1 _ hb.size⟩,(fun h=>by cases h),(fun h=>by cases h),(fun h=>by cases h)⟩
   show Di x 226 _ 226=_
   simp[Di]
  ·have h7:=(ev 232 rfl).trans (hd 7 (by decide) (by show 7<20;decide) (by kernel_rfl))
   have h1:=ev 226 rfl
   generalize mkA A dD x=A' at *
   refine Exists.elim (hΩ.2.1 rfl) fun b hB=>?_
   obtain⟨i0,hi0,hz0,hz1,hz2⟩:=info_parts iI
   refine Exists.elim (Vt (W:=V) W.heap.size 23 23 3 i0 (O J 0) 1 8 Tryz.underlying23 hi0 hz0 hz1 hz2 rfl (by decide) b hB.2 (some ⟨gh,0,none⟩) k cD (encI (H.take k)) (by rw[Dq,List.length_take];omega) (fun h=>by cases h) (fun ad e j u hj=>by injection e with e;subst e;rw[hadd,Nat.zero_add];exact hcell0 j u hj) (Gp _) (by unfold maxLen;omega) (by omega) hb.size) fun v' h2=>?_
   refine Exists.elim h2 fun w' h3=>?_
   refine Wl (Nw rfl (by rw[Act.eval,Array.getD_eq_getD_getElem?];exact h1.trans hB.1) (by rw[Act.eval,Array.getD_eq_getD_getElem?];exact h7) h3.1) ⟨_,rfl,fun _=>hb.trans (h3.2.2.mono hb.size),(fun h=>by cases h),fun _=>?_,(fun h=>by cases h),(fun h=>by cases h)⟩
   show w'.ownsRow _ 3 1 (Di x 233 _ 233) _ _
   simpa [Di] using h3.2.1
  ·have h15:=(ev 240 rfl).trans (hd 15 (by decide) (by show 15<20;decide) (by kernel_rfl))
   have h8:=ev 233 rfl
   generalize mkA A dD x=A' at *
   have hO:=hΩ.2.2.1 rfl
   have ha:∃ a,(if cD=k+1 then some ⟨gh,0,none⟩ else some (⟨gh,k+1,none⟩:Addr))=some a/\∀ j u,(encI (H.drop (k+1)))[j]?=some u->V.cell? (a.add j)=some u:=by
    by_cases hc:cD=k+1
    ·refine⟨_,if_pos hc,fun j u hj=>?_⟩
     rw[List.drop_of_length_le (by omega)] at hj
     simp[encI] at hj
    ·exact⟨_,if_neg hc,fun j u hj=>by rw[hadd];exact hcell (k+1) j u hj⟩
   refine Exists.elim ha fun a ha=>?_
   obtain⟨i0,hi0,hz0,hz1,hz2⟩:=info_parts iI
   refine Exists.elim (run_append_own_at (w:=V) W.heap.size 23 23 3 i0 (O J 0) 1 8 Tryz.underlying23 hi0 hz0 hz1 hz2 rfl (by decide) (x 233) k (encI (H.take k)) hO a (H.length - (k+1)) (cD - (k+1)) (encI (H.drop (k+1))) (by rw[Dq,List.length_drop];omega) ha.2 (Gp _) (by unfold maxLen;omega) (by omega) hb.size) fun v' h2=>?_
   refine Exists.elim h2 fun w' h3=>?_
   refine Wl (Nw rfl (by rw[Act.eval,Array.getD_eq_getD_getElem?];exact h8) (by rw[Act.eval,Array.getD_eq_getD_getElem?];exact h15.trans (congrArg (fun p=>Value.slice p (H.length - (k+1)) (cD - (k+1))) ha.1)) h3.1) ⟨_,rfl,fun _=>hb.grown h3.2.2.1 hb.size (fun j hj=>(hO.lt j hj).1),(fun h=>by cases h),(fun h=>by cases h),fun _=>?_,(fun h=>by cases h)⟩
   show w'.ownsRow _ 3 1 (Di x 241 _ 241) _ _
   simpa [Di] using h3.2.1
  ·have h18:=(ev 243 rfl).trans (hd 18 (by decide) (by show 18<20;decide) (by kernel_rfl))
   have h16:=ev 241 rfl
   have hO:=hΩ.2.2.2.1 rfl
   generalize mkA A dD x=A' at *
   have he:H.eraseIdx k=H.take k++H.drop (k+1):=List.eraseIdx_eq_take_drop_succ ..
   have hl:(H.eraseIdx k).length=k+(H.length - (k+1)):=by rw[he,List.length_append,List.length_take,List.length_drop];omega
   have hO':V.ownsRow W.heap.size 3 1 (x 241) (H.eraseIdx k).length (encI (H.eraseIdx k)):=by
    rw[hl,he,encI,List.map_append]
    exact hO
   refine Exists.elim (Aq hO') fun aN h2=>?_
   refine Exists.elim h2 fun cN h3=>?_
   have c15:=((Bv hb).1 _ _ (cell_lt h15)).trans h15
   have f15:=(hb.frozen (p:=⟨g,o+15,none⟩) (cell_lt h15)).trans z15
   have h16':=h16.trans h3
   refine wp_skip (w':=V.setCell ⟨g,o+15,none⟩ (Y aN (H.eraseIdx k).length cN)) (by simp[execOp,go_sem,h18,h16',c15,f15]) ⟨_,rfl,(fun h=>by omega),(fun h=>by cases h),(fun h=>by cases h),(fun h=>by cases h),fun _=>⟨V,aN,cN,hb,?_,rfl⟩⟩
   rw[<- h3];exact hO'
 ·rintro x V hΩ -
  obtain⟨w2,aN,cN,h1,h2,rfl⟩:=hΩ.2.2.2.2 rfl
  exact fin x w2 aN cN h1 h2
end
section
section
variable {w W3:Wq} {n0 lo2:Nat} {aS aH aF aL:Option Addr} {cS cH cF cL g cT n:Nat} {M:Mm} {l:List (Tk × TkV)} {x:Pk} {B lo:Nat}
theorem b3z(h:WM W3 n0 B lo lo2 aS aH aF aL cS cH cF cL M g cT n l){i:Nat}(hi:i<l.length){N:Mm}{V w2:Wq}(HH:Has (Xw (some ⟨g,0,none⟩) n cT) V B lo (Up W3 (Ac B aS aH aF aL)) N)(hF:Fine W3 V (Ac B aS aH aF aL)){H:List Int}{aN:Option Addr}{cN:Nat}(hb:Below V.heap.size V w2)(ho:w2.ownsRow V.heap.size 3 1 (Y aN H.length cN) H.length (encI H))(hm:H.length<=1000) :
  Bo (w2.setCell ⟨g,i*16+15,none⟩ (Y aN H.length cN)) lo2 g cT (l.set i (⟨l[i].1.busy,l[i].1.f,H⟩,⟨l[i].2.aK,l[i].2.cK,aN,cN⟩))/\Has (Xw (some ⟨g,0,none⟩) n cT) (w2.setCell ⟨g,i*16+15,none⟩ (Y aN H.length cN)) B lo (Up W3 (Ac B aS aH aF aL)) N/\Kept W3 (w2.setCell ⟨g,i*16+15,none⟩ (Y aN H.length cN)) B n0:=by
 have T:=h.t.fine hF h.ap
 have hgz:=h.t.glo
 have hz:=hF.size
 refine⟨T.setH hi H aN cN hm (ownsRow_le ho (by omega)) (fun k hk _=>hb.block k hk) (fun y hy=>.inr (ho.lt y.block (by rw[hy];rfl)).1),(HH.below hb).same (by rw[World.size_setCell];exact Nat.le_refl _) fun k _ hk=>Below.heap_setCell _ _ _ _ ?_,?_⟩
 ·dsimp only
  rintro rfl
  rcases hk with hk|hk
  ·exact h.ap _ hk (.inl rfl)
  ·omega
 ·have hk:=h.kept (hF.mono (Z':=fun k=>Ac B aS aH aF aL k\/TB g l k) fun k hk=>.inl hk)
  have h1:=h.hlo2
  have h2:=h.size
  refine⟨hb.os.trans hk.os,hb.tape.trans hk.tape,hb.output.trans hk.output,by rw[World.size_setCell];have:=hb.size;omega,fun k hk' hne=>?_⟩
  exact(Below.heap_setCell _ _ _ _ (by dsimp only;omega)).trans ((hb.block k (by omega)).trans (hk.block k hk' hne))
theorem a3n(h:WM W3 n0 B lo lo2 aS aH aF aL cS cH cF cL M g cT n l){i:Nat}(hi:i<l.length){N:Mm}{V w9:Wq}{b:Bool}{f F:Fr}{H:List Int}{v:TkV}(T:Bo V lo2 g cT (l.set i (⟨b,f,H⟩,v)))(HH:Has (Xw (some ⟨g,0,none⟩) n cT) V B lo (Up W3 (Ac B aS aH aF aL)) N)(hK:Kept W3 V B n0)(hb:Below V.heap.size V w9)(hk:F.keys=f.keys) :
  w9.there g (i*16+1) 14/\Bo (w9.setCells g (i*16+1) (F.enc v.aK v.cK)) lo2 g cT (l.set i (⟨b,F,H⟩,v))/\Has (Xw (some ⟨g,0,none⟩) n cT) (w9.setCells g (i*16+1) (F.enc v.aK v.cK)) B lo (Up W3 (Ac B aS aH aF aL)) N/\Kept W3 (w9.setCells g (i*16+1) (F.enc v.aK v.cK)) B n0:=by
 have hil:i<(l.set i (⟨b,f,H⟩,v)).length:=by rw[List.length_set];exact hi
 have hel:(l.set i (⟨b,f,H⟩,v))[i]'hil=(⟨b,f,H⟩,v):=List.getElem_set_self ..
 have hpi:=List.getElem_mem hil
 have T9:=T.below hb
 have hgz:=h.t.glo
 have hz:=hK.size
 have h1:=h.hlo2
 have k1:=T9.keys _ hpi
 have k2:=T9.klo _ hpi
 have k3:=T9.kg _ hpi
 have k4:=T9.kh _ hpi
 rw[hel] at k1 k2 k3 k4
 have T2:=T9.a2c hil F v.aK v.cK (by rw[hk];exact k1) k2 (by rw[hk];exact k3) (by rw[hk];exact k4)
 rw[hel,List.set_set] at T2
 refine⟨T9.there hil (by decide),T2,(HH.below hb).same (by rw[setCells_size];exact Nat.le_refl _) fun k _ hk=>Ad ?_ _ _ _,⟨(Ap _ _ _).1.trans (hb.os.trans hK.os),(Ap _ _ _).2.1.trans (hb.tape.trans hK.tape),(Ap _ _ _).2.2.trans (hb.output.trans hK.output),by rw[setCells_size];have:=hb.size;omega,fun k hk' hne=>(Ad ?_ _ _ _).trans ((hb.block k ?_).trans (hK.block k hk' hne))⟩⟩
 ·rintro rfl
  rcases hk with hk|hk
  ·exact h.ap _ hk (.inl rfl)
  ·omega
 ·omega
 ·have:=h.size;omega
theorem a8p{i:Nat}(h:PkH w W3 n0 lo2 aS aH aF aL cS cH cF cL g cT n M l x)(ht:x.tick=false)(hx:x.task=i)(hi:i<l.length)(hs:x.step=true)(hb:l[i].1.busy=true)(hk:l[i].1.f.c.kind=6)(hl5:l[i].1.held.length<=100)(hsl:∀ a∈l[i].1.held,Dc M a=true)(hE:Hid (doE ⟨M,l.map (·.1)⟩ x=0))(hW:Hid (doW ⟨M,l.map (·.1)⟩ x=⟨(stepT M i l[i].1).1,(l.map (·.1)).set i (stepT M i l[i].1).2⟩))(v0 v1 v11 v12:Value) :
  Code.wp Pg (H9 (H9 (H9 (Tryz.f22.body.getD .skip)))) (bodyPost Pg Tryz.f22 (Iw w ⟨M,l.map (·.1)⟩ x)) (Np w.heap.size v0 v1 v11 v12) W3:=by
 have hpi:=List.getElem_mem hi
 have hW2:Hid (doW ⟨M,l.map (·.1)⟩ x=⟨if l[i].1.f.c.slot∈l[i].1.held then Em M l[i].1.f.c.slot else M,(l.map (·.1)).set i ⟨false,Ag l[i].1.f 0,l[i].1.held.erase l[i].1.f.c.slot⟩⟩):=by
  show _=_
  rw[hW.out]
  unfold stepT
  rw[if_neg (by omega),if_neg (by omega),if_neg (by omega),if_pos hk]
  rfl
 have HC:Hid (l[i].1.f.c.slot∈l[i].1.held->Calls Pg 72 #[.pointer (some ⟨w.heap.size,0,none⟩),O J l[i].1.f.c.slot] W3 fun e w'=>e=.returned (.tuple #[])/\Has (Xw (some ⟨g,0,none⟩) n cT) w' w.heap.size n0 (Up W3 (Ac w.heap.size aS aH aF aL)) (Em M l[i].1.f.c.slot)/\Fine W3 w' (Ac w.heap.size aS aH aF aL)):=fun hm=>L9 ⟨aS,aH,aF,aL,cS,cH,cF,cL,h.wm.m,fun _ h=>h⟩ h.ok (hsl _ hm)
 obtain⟨x0,x1,x2,x3,x4,x5,x6,x7,x8,xs⟩:=P6 h.bx
 obtain⟨q0,q1,q2,q3,q4,q5,qs⟩:=Bc h.wm.m.box
 have d0:=(h.wm.t.busy hi).1
 have d1:W3.cell? ⟨g,i*16+1,none⟩=some (O J l[i].1.f.c.kind):=h.wm.t.cell (q:=1) hi (by decide)
 have d6:W3.cell? ⟨g,i*16+6,none⟩=some (O J l[i].1.f.c.slot):=h.wm.t.cell (q:=6) hi (by decide)
 have d15:W3.cell? ⟨g,i*16+15,none⟩=some (Y l[i].2.aH l[i].1.held.length l[i].2.cH):=(h.wm.t.Zb hi).1
 have HR:Hid (Cj W3 l[i].2.aH l[i].2.cH l[i].1.held):=h.wm.t.a0d.held _ hpi
 have HO:Hid (W3.ownsRow lo2 3 1 (Y l[i].2.aH l[i].1.held.length l[i].2.cH) l[i].1.held.length (encI l[i].1.held)):=h.wm.t.held _ hpi
 have HP:Hid (PkH w W3 n0 lo2 aS aH aF aL cS cH cF cL g cT n M l x):=h
 rw[hb] at d0
 rw[hk] at d1
 rw[ht] at x2
 rw[hs] at x1
 rw[hx] at x0
 have hn:(i:Int)<(n:Int):=by have:=h.wm.len;omega
 have hn5:n<=5:=by rw[<- h.wm.len];exact h.wm.t.few
 have Hb:Hid (l[i].1.busy=true):=hb
 clear hW h ht hs hx hb hk hsl
 unfold Np
 conv=>arg 2;whnf
 go_wp2_with fail
 rename_i K2 hK2 K1 hK1
 have HK2:Hid _:=hK2
 have HK1:Hid _:=hK1
 clear hK2 hK1 x0 x1 x2 x3 x4 x5 x6 x7 x8 q0 q1 q2 q3 q4 q5 d0 d1
 have m1:=HR.out.max
 have HAT:Hid (∀ k (h:k<l[i].1.held.length),∃ b,l[i].2.aH=some ⟨b,0,none⟩/\∀ j (h:j<l[i].1.held.length),W3.cell? ⟨b,j,none⟩=some (O J l[i].1.held[j])):=fun k h=>by
  obtain⟨b,cap,e⟩:=ownsRow_form HO.out (by omega)
  injection e with e1 e2 e3
  rcases HR.out.at_ with h0|⟨b',o,e,hc⟩
  ·omega
  ·rw[e1] at e
   injection e with e
   injection e with e4 e5
   subst e4 e5
   exact⟨b,e1,fun j hj=>by have:=hc j hj;rwa [Nat.zero_add] at this⟩
 obtain⟨sl,hsl⟩:∃ sl,sl=l[i].1.f.c.slot:=⟨_,rfl⟩
 rw[<- hsl] at d6 HC hW2
 have Hsl:Hid (sl=l[i].1.f.c.slot):=hsl
 clear hsl
 obtain⟨H,hH⟩:∃ H,H=l[i].1.held:=⟨_,rfl⟩
 have HHe:Hid (H=l[i].1.held):=hH
 rw[<- hH] at HC hW2 hl5 d15 HR HO m1 HAT ⊢
 clear hH
 have hgz:=HP.out.wm.t.glo
 go_loop [209] (fun v=>∃ k:Nat,k<=H.length/\v=O J k/\Hid (sl ∉ H.take k)) (fun v=>H.length - (intOf v).toNat)
 case atStart=>exact⟨0,Nat.zero_le _,rfl,by show _ ∉ _;simp⟩
 case round =>
  obtain⟨k,hk,rfl,HN⟩:=hrel
  by_cases hlt:k<H.length
  ·obtain⟨gh,haH,hcell⟩:=HAT.out k hlt
   have hck:=hcell k hlt
   have HTk:Hid (∀ y,H[k]=y->y≠sl->sl ∉ H.take (k+1)):=fun y e hn=>by
    show _ ∉ _
    rw[List.take_succ_eq_append_getElem hlt]
    simp only[List.mem_append,List.mem_singleton,not_or]
    exact⟨HN.out,by rw[e];exact fun h=>hn h.symm⟩
   rw[haH] at d15 ⊢
   have hl2:(k:Int)<(H.length:Int):=by omega
   by_cases hx:H[k]=sl
   ·have hmem:sl∈H:=hx ▸ List.getElem_mem hlt
    have HEr:Hid (H.erase sl=H.eraseIdx k):=Tt hlt hx HN.out
    have HW:Hid (doW ⟨M,l.map (·.1)⟩ x=⟨Em M sl,(l.map (·.1)).set i ⟨!(Ag l[i].1.f 0).done,Ag l[i].1.f 0,H.eraseIdx k⟩⟩):=by
     show _=_
     rw[hW2.out,if_pos hmem,HEr.out]
     rfl
    have HC2:Hid _:=HC.out hmem
    have HTB:Hid (TB g l gh):=.inr (.inl ⟨_,hpi,_,haH,rfl⟩)
    have HCl:Hid (∀ j (h:j<H.length),W3.cell? ⟨gh,j,none⟩=some (O J H[j])):=hcell
    have hcD:H.length<=l[i].2.cH:=HR.out.le
    have hel:(l.eraseIdx k).length<=l.length:=List.length_eraseIdx_le ..
    have D15:Hid (W3.cell? ⟨g,i*16+15,none⟩=_):=d15
    rw[hx] at hck
    clear HTk hx hcell hW2 HC HAT HN HEr hel d15
    go_wp2_with fail
    refine Calls.mono HC2.out ?_
    rintro e V ⟨rfl,hHs,hF⟩
    have hbk:∀ q,TB g l q->q<W3.heap.size->V.heap[q]?=W3.heap[q]?:=fun q hq hz=>hF.block q hz (fun hf=>HP.out.wm.ap q hf hq)
    have Hcl2:Hid (∀ j (h:j<H.length),V.cell? ⟨gh,j,none⟩=some (O J H[j])):=fun j hj=>(World.cell?_of_block (a:=⟨gh,j,none⟩) (hbk gh HTB.out (cell_lt (HCl.out j hj)))).trans (HCl.out j hj)
    have D2:Hid (V.cell? ⟨g,i*16+15,none⟩=_):=(World.cell?_of_block (a:=⟨g,i*16+15,none⟩) (hbk g (.inl rfl) hgz.2)).trans D15.out
    have Z2:Hid (V.frozen? ⟨g,i*16+15,none⟩=false):=(World.frozen?_of_block (a:=⟨g,i*16+15,none⟩) (hbk g (.inl rfl) hgz.2)).trans (HP.out.wm.t.row.frozenAt _)
    have HHs:Hid _:=hHs
    have HF:Hid _:=hF
    clear hHs hF hbk HC2 HCl D15 d6
    go_wp2_with fail
    refine b2c rfl rfl rfl D2.out Z2.out Hcl2.out hlt hl5 hcD fun y w2 aN cN hb2 ho2=>?_
    simp only[mkA,dD,List.foldl_cons,List.foldl_nil,Act.put,List.setIfInBounds_toArray,List.set_cons_succ,List.set_cons_zero]
    obtain⟨T4,H4,K4⟩:=b3z HP.out.wm hi HHs.out HF.out hb2 ho2 (Nat.le_trans (List.length_eraseIdx_le ..) (by omega))
    have HT4:Hid _:=T4
    have HH4:Hid _:=H4
    have HK4:Hid _:=K4
    clear T4 H4 K4 hb2 ho2 HHs HF D2 Z2 Hcl2
    generalize w2.setCell ⟨g,i*16+15,none⟩ (Y aN (H.eraseIdx k).length cN)=W5 at *
    go_wp2
    obtain⟨T4,H4,K4⟩:=(⟨HT4.out,HH4.out,HK4.out⟩:_/\_/\_)
    clear HT4 HH4 HK4
    refine HK1.out _ _ ?_
    clear HK1
    have hil:i<(l.set i (⟨l[i].1.busy,l[i].1.f,(H.eraseIdx k)⟩,(⟨l[i].2.aK,l[i].2.cK,aN,cN⟩:TkV))).length:=by rw[List.length_set];exact hi
    have hel:(l.set i (⟨l[i].1.busy,l[i].1.f,(H.eraseIdx k)⟩,(⟨l[i].2.aK,l[i].2.cK,aN,cN⟩:TkV)))[i]'hil=(⟨l[i].1.busy,l[i].1.f,(H.eraseIdx k)⟩,(⟨l[i].2.aK,l[i].2.cK,aN,cN⟩:TkV)):=List.getElem_set_self ..
    have lF:Hid (W5.rangeAt g (i*16+1) (l[i].1.f.enc l[i].2.aK l[i].2.cK)):=by
     have:=T4.Q7 hil
     rw[hel] at this
     exact this
    have HT4:Hid _:=T4
    have HH4:Hid _:=H4
    have HK4:Hid _:=K4
    clear T4 H4 K4 hel hil
    go_wp2_with (have h9:=lF.out;refine We rfl (.tmp 248) rfl rfl h9 ?_;clear h9 lF)
    refine(Vo l[i].1.f 0 l[i].2.aK l[i].2.cK _).mono ?_
    rintro e w9 ⟨rfl,hb9⟩
    obtain⟨th,T5,H5,K5⟩:=a3n (F:=Ag l[i].1.f 0) HP.out.wm hi HT4.out HH4.out HK4.out hb9 rfl
    have Th:Hid (w9.there g (i*16+1) 14):=th
    clear th HT4 HH4 HK4 hb9
    go_wp2_with (have h9:=Th.out;refine Bd (f:=Ag l[i].1.f 0) rfl (.tmp 252) (.tmp 250) rfl rfl rfl h9 ?_;clear h9 Th)
    generalize w9.setCells g (i*16+1) (Fr.enc (Ag l[i].1.f 0) l[i].2.aK l[i].2.cK)=W6 at *
    refine HK2.out _ _ ?_
    clear HK2
    obtain⟨c13,cb,cf,cg,hwp⟩:=Rk HP.out.wm hi T5 H5 K5
    obtain⟨c0,c1,c2,c3,c4,c5,r6,t6,o6,b6,hQ⟩:=N9 hwp HP.out.bz HP.out.big HP.out.bel hE.out HW.out.symm
    have R6:Hid _:=r6
    have T6:Hid _:=t6
    have HQ:Hid _:=hQ
    obtain⟨z0,z1,z2,z3,z4,z5,zs⟩:=Bc b6
    clear r6 t6 hQ hwp T5 H5 K5 HP hE HW
    go_wp2_with (first|(refine Ha rfl (.tmp 2) rfl rfl R6.out ?_;clear R6)|(refine Gz rfl (.tmp 4) (.tmp 262) rfl rfl rfl T6.out o6 ?_;clear T6))
    generalize (W6.setCell ⟨g,i*16,none⟩ (.bool (!(Ag l[i].1.f 0).done))).setCells (w.heap.size+1+1) 0 [c0,c1,c2,c3,c4,c5]=W7 at *
    refine bodyPost_ret (v:=.tuple #[.agg #[c0,c1,c2,c3,c4,c5],O J 0]) (by simp[results,Tryz.results22,go_sem,z0,z1,z2,z3,z4,z5]) rfl HQ.out
   ·have HH:Hid (sl ∉ H.take (k+1)):=HTk.out _ rfl hx
    have hx':(H[k] == sl)=false:=by simpa using hx
    clear HTk hx hcell
    generalize H[k]=y at *
    go_wp2
    go_round
    case rel=>exact⟨k+1,by omega,by go_num,HH⟩
    case measure=>simp[intOf];omega
  ·have hN:sl ∉ H:=by
    have:=HN.out
    rwa [show k=H.length by omega,List.take_length] at this
   have HW:Hid (doW ⟨M,l.map (·.1)⟩ x=⟨M,(l.map (·.1)).set i ⟨!(Ag l[i].1.f 0).done,Ag l[i].1.f 0,H⟩⟩):=by
    show _=_
    rw[hW2.out,if_neg hN,List.erase_of_not_mem hN]
    rfl
   have hl2:¬ (k:Int)<(H.length:Int):=by omega
   have T4:Bo W3 lo2 g cT (l.set i (⟨l[i].1.busy,l[i].1.f,H⟩,l[i].2)):=by
    rw[HHe.out]
    exact(set_self hi).symm ▸ HP.out.wm.t
   have H4:Has (Xw (some ⟨g,0,none⟩) n cT) W3 w.heap.size n0 (Up W3 (Ac w.heap.size aS aH aF aL)) M:=⟨aS,aH,aF,aL,cS,cH,cF,cL,HP.out.wm.m,fun _ h=>.inl h⟩
   have K4:Kept W3 W3 w.heap.size n0:=⟨rfl,rfl,rfl,Nat.le_refl _,fun _ _ _=>rfl⟩
   have HT4:Hid _:=T4
   have HH4:Hid _:=H4
   have HK4:Hid _:=K4
   clear hN HN hW2 T4 H4 K4
   go_wp2
   obtain⟨T4,H4,K4⟩:=(⟨HT4.out,HH4.out,HK4.out⟩:_/\_/\_)
   clear HT4 HH4 HK4 d6 d15
   refine HK1.out _ _ ?_
   clear HK1
   have hil:i<(l.set i (⟨l[i].1.busy,l[i].1.f,H⟩,l[i].2)).length:=by rw[List.length_set];exact hi
   have hel:(l.set i (⟨l[i].1.busy,l[i].1.f,H⟩,l[i].2))[i]'hil=(⟨l[i].1.busy,l[i].1.f,H⟩,l[i].2):=List.getElem_set_self ..
   have lF:Hid (W3.rangeAt g (i*16+1) (l[i].1.f.enc l[i].2.aK l[i].2.cK)):=by
    have:=T4.Q7 hil
    rw[hel] at this
    exact this
   have HT4:Hid _:=T4
   have HH4:Hid _:=H4
   have HK4:Hid _:=K4
   clear T4 H4 K4 hel hil
   go_wp2_with (have h9:=lF.out;refine We rfl (.tmp 248) rfl rfl h9 ?_;clear h9 lF)
   refine(Vo l[i].1.f 0 l[i].2.aK l[i].2.cK _).mono ?_
   rintro e w9 ⟨rfl,hb9⟩
   obtain⟨th,T5,H5,K5⟩:=a3n (F:=Ag l[i].1.f 0) HP.out.wm hi HT4.out HH4.out HK4.out hb9 rfl
   have Th:Hid (w9.there g (i*16+1) 14):=th
   clear th HT4 HH4 HK4 hb9
   go_wp2_with (have h9:=Th.out;refine Bd (f:=Ag l[i].1.f 0) rfl (.tmp 252) (.tmp 250) rfl rfl rfl h9 ?_;clear h9 Th)
   generalize w9.setCells g (i*16+1) (Fr.enc (Ag l[i].1.f 0) l[i].2.aK l[i].2.cK)=W6 at *
   refine HK2.out _ _ ?_
   clear HK2
   obtain⟨c13,cb,cf,cg,hwp⟩:=Rk HP.out.wm hi T5 H5 K5
   obtain⟨c0,c1,c2,c3,c4,c5,r6,t6,o6,b6,hQ⟩:=N9 hwp HP.out.bz HP.out.big HP.out.bel hE.out HW.out.symm
   have R6:Hid _:=r6
   have T6:Hid _:=t6
   have HQ:Hid _:=hQ
   obtain⟨z0,z1,z2,z3,z4,z5,zs⟩:=Bc b6
   clear r6 t6 hQ hwp T5 H5 K5 HP hE HW
   go_wp2_with (first|(refine Ha rfl (.tmp 2) rfl rfl R6.out ?_;clear R6)|(refine Gz rfl (.tmp 4) (.tmp 262) rfl rfl rfl T6.out o6 ?_;clear T6))
   generalize (W6.setCell ⟨g,i*16,none⟩ (.bool (!(Ag l[i].1.f 0).done))).setCells (w.heap.size+1+1) 0 [c0,c1,c2,c3,c4,c5]=W7 at *
   refine bodyPost_ret (v:=.tuple #[.agg #[c0,c1,c2,c3,c4,c5],O J 0]) (by simp[results,Tryz.results22,go_sem,z0,z1,z2,z3,z4,z5]) rfl HQ.out
end
end
end Go.Proofs.YthhgoenomehobaaGreat.mm
