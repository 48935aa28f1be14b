/- Parts. -/
import Derived.Test.YthhgoenomehobaaGreatP43
namespace Go.Proofs.YthhgoenomehobaaGreat.mm
open Act renaming eval → oQ
open Option.some renaming injEq → qA
open Exists renaming elim → pY
open World renaming size_setCell → eQ
open List renaming getElem_mem → bJ, length_set → dZ, getElem_set_self → mF, getD_cons_zero → nZ, getD_cons_succ → oC, length_take → jO, set_cons_succ → fV, length_drop → jP, take_length → jS, setIfInBounds_toArray → qB, length_eraseIdx_le → qC, set_cons_zero → qE, foldl_cons → qF, foldl_nil → qG
open Go renaming bodyPost_ret → gZ, Value → dU, execOp → kD, results → iH, undef → Uz, World → Wq
open Nat renaming le_refl → aC, zero_add → dR
open RowKit.Below renaming refl → dK, heap_setCell → dM
open Tryz
set_option maxRecDepth 100000
set_option linter.unusedVariables false
open Value renaming int → O, slice → Y
open IntKind renaming i64 → J
open Tryz renaming prog → Pg
open ChangeShapes WideShapes ChangeAt RowKit Joins Deep Maps
set_option maxHeartbeats 0
variable {op:Oper}{i:Nat}{V:Wq}{Q:Exit->Act->Wq->Prop}{A:Act}{W:Wq}{id:Nat}{st:String}
def b6k(s:String):Array Oper:=#[⟨some 225,.move (.tmp 7),113,s,#[],none⟩,⟨some 226,.buildSlice 23 0 #[],23,s,#[],none⟩,⟨some 227,.move (.tmp 7),113,s,#[],none⟩,⟨some 228,.nilCheck (.tmp 227),0,s,#[⟨2,.data⟩],none⟩,⟨some 229,.fieldAddr 49 (.tmp 228) 2,0,s,#[⟨3,.data⟩],none⟩,⟨some 230,.load 23 (.tmp 229),23,s,#[⟨4,.data⟩],none⟩,⟨some 231,.move (.tmp 9),3,s,#[],none⟩,⟨some 232,.slice 23 (.tmp 230) none (some (.tmp 231)) none,23,s,#[⟨5,.data⟩,⟨6,.data⟩],none⟩,⟨some 233,.call { callee:=.builtin .append,args:=#[.tmp 226,.tmp 232],argTypes:=#[23,23] },23,s,#[⟨1,.data⟩,⟨7,.data⟩],none⟩,⟨some 234,.move (.tmp 7),113,s,#[],none⟩,⟨some 235,.nilCheck (.tmp 234),0,s,#[⟨9,.data⟩],none⟩,⟨some 236,.fieldAddr 49 (.tmp 235) 2,0,s,#[⟨10,.data⟩],none⟩,⟨some 237,.load 23 (.tmp 236),23,s,#[⟨11,.data⟩],none⟩,⟨some 238,.move (.tmp 9),3,s,#[],none⟩,⟨some 239,.binOp .add 3 (.tmp 238) (.const (O J 1)) 3,3,s,#[⟨13,.data⟩],none⟩,⟨some 240,.slice 23 (.tmp 237) (some (.tmp 239)) none none,23,s,#[⟨12,.data⟩,⟨14,.data⟩],none⟩,⟨some 241,.call { callee:=.builtin .append,args:=#[.tmp 233,.tmp 240],argTypes:=#[23,23] },23,s,#[⟨8,.data⟩,⟨15,.data⟩,⟨8,.chain⟩],none⟩,⟨some 242,.nilCheck (.tmp 225),0,s,#[⟨0,.data⟩,⟨0,.phase⟩,⟨1,.phase⟩,⟨2,.phase⟩,⟨3,.phase⟩,⟨4,.phase⟩,⟨5,.phase⟩,⟨6,.phase⟩,⟨7,.phase⟩,⟨8,.phase⟩,⟨9,.phase⟩,⟨10,.phase⟩,⟨11,.phase⟩,⟨12,.phase⟩,⟨13,.phase⟩,⟨14,.phase⟩,⟨15,.phase⟩,⟨16,.phase⟩],none⟩,⟨some 243,.fieldAddr 49 (.tmp 242) 2,0,s,#[⟨17,.data⟩,⟨0,.phase⟩,⟨1,.phase⟩,⟨2,.phase⟩,⟨3,.phase⟩,⟨4,.phase⟩,⟨5,.phase⟩,⟨6,.phase⟩,⟨7,.phase⟩,⟨8,.phase⟩,⟨9,.phase⟩,⟨10,.phase⟩,⟨11,.phase⟩,⟨12,.phase⟩,⟨13,.phase⟩,⟨14,.phase⟩,⟨15,.phase⟩,⟨16,.phase⟩],none⟩,⟨none,.store 23 (.tmp 243) (.tmp 241),0,s,#[⟨18,.data⟩,⟨16,.data⟩,⟨16,.chain⟩,⟨0,.phase⟩,⟨1,.phase⟩,⟨2,.phase⟩,⟨3,.phase⟩,⟨4,.phase⟩,⟨5,.phase⟩,⟨6,.phase⟩,⟨7,.phase⟩,⟨8,.phase⟩,⟨9,.phase⟩,⟨10,.phase⟩,⟨11,.phase⟩,⟨12,.phase⟩,⟨13,.phase⟩,⟨14,.phase⟩,⟨15,.phase⟩,⟨16,.phase⟩],none⟩]
def dD:List Nat:=[225,226,227,228,229,230,231,232,233,234,235,236,237,238,239,240,241,242,243]
theorem b4o{g o gh k:Nat}{H:List Int}{cD:Nat}(qg:A.tmps.size=263)(e7:A.eval (.tmp 7)=.pointer (some ⟨g,o,none⟩))(e9:A.eval (.tmp 9)=O J (k:Int))(xB:W.cell? ⟨g,o+15,none⟩=some (Y (some ⟨gh,0,none⟩) H.length cD))(QC:W.frozen? ⟨g,o+15,none⟩=false)(hr:∀ j (h:j<H.length),W.cell? ⟨gh,j,none⟩=some (O J H[j]))(hk:k<H.length)(hn:H.length<=100)(ET:H.length<=cD)(um:∀ x w2 aN cN,Below W.heap.size W w2->w2.ownsRow W.heap.size 3 1 (Y aN (H.eraseIdx k).length cN) (H.eraseIdx k).length (encI (H.eraseIdx k))->Q .normal (mkA A dD x) (w2.setCell ⟨g,o+15,none⟩ (Y aN (H.eraseIdx k).length cN))):(Code.region id (b6k st) true).wp Pg Q A W:=by
 refine Iq (by kernel_rfl) (dD ++ [1000]) dD [1,8,16,19] [3,0,3,3,3,3,3,1,0,3,3,3,3,3,3,2,0,4,3,0]
  [.pointer (some ⟨g,o,none⟩),Uz,.pointer (some ⟨g,o,none⟩),.pointer (some ⟨g,o,none⟩),.pointer (some ⟨g,o+15,none⟩),Y (some ⟨gh,0,none⟩) H.length cD,O J (k:Int),Y (some ⟨gh,0,none⟩) k cD,Uz,.pointer (some ⟨g,o,none⟩),.pointer (some ⟨g,o,none⟩),.pointer (some ⟨g,o+15,none⟩),Y (some ⟨gh,0,none⟩) H.length cD,O J (k:Int),O J ((k:Int)+1),Y (if cD=k+1 then some ⟨gh,0,none⟩ else some ⟨gh,k+1,none⟩) (H.length - (k+1)) (cD - (k+1)),Uz,.pointer (some ⟨g,o,none⟩),.pointer (some ⟨g,o+15,none⟩),Uz]
  (fun p x V=>(p<4->Below W.heap.size W V)/\(p=1->∃ b,x 226=Y (some ⟨b,0,none⟩) 0 0/\V.ownsRow W.heap.size 3 1 (Y (some ⟨b,0,none⟩) 0 0) 0 [])/\(p=2->V.ownsRow W.heap.size 3 1 (x 233) k (encI (H.take k))) /\
   (p=3->V.ownsRow W.heap.size 3 1 (x 241) (k+(H.length - (k+1))) (encI (H.take k)++encI (H.drop (k+1)))) /\
   (p=4->∃ w2 aN cN,Below W.heap.size W w2/\w2.ownsRow W.heap.size 3 1 (Y aN (H.eraseIdx k).length cN) (H.eraseIdx k).length (encI (H.eraseIdx k))/\V=w2.setCell ⟨g,o+15,none⟩ (Y aN (H.eraseIdx k).length cN)))
  (by kernel_rfl) (fun V h hs=>⟨fun _=>h,(fun h=>by cases h),(fun h=>by cases h),(fun h=>by cases h),(fun h=>by cases h)⟩) ?_ ?_ ?_ ?_
 ·rintro p x x' V h hp
  have h1:x' 226=x 226:=h 0 (by decide)
  have h2:x' 233=x 233:=h 1 (by decide)
  have h3:x' 241=x 241:=h 2 (by decide)
  exact⟨hp.1,fun e=>by rw[h1];exact hp.2.1 e,fun e=>by rw[h2];exact hp.2.2.1 e,fun e=>by rw[h3];exact hp.2.2.2.1 e,hp.2.2.2.2⟩
 ·intro i hi vz p x V hp hΩ hd o' ho
  have hi:i<20:=hi
  have n8:i≠1/\i≠8/\i≠16/\i≠19:=⟨fun e=>vz (by simp[e]),fun e=>vz (by simp[e]),fun e=>vz (by simp[e]),fun e=>vz (by simp[e])⟩
  have E7:=Dw (A:=A) (D:=dD) x (k:=7) rfl e7
  have E9:=Dw (A:=A) (D:=dD) x (k:=9) rfl e9
  have ev:∀ k,(dD.contains k && decide (k<263))=true->(mkA A dD x).tmps[k]?.getD Uz=x k:=fun k h=>Jt x (by rw[qg];exact h)
  have hb:(i=5\/i=12)->V.cell? ⟨g,o+15,none⟩=some (Y (some ⟨gh,0,none⟩) H.length cD):=fun h=>by
   have:p<=3:=by rcases h with rfl|rfl <;> exact hp
   exact((Ce (hΩ.1 (by omega))).1 _ _ (cell_lt xB)).trans xB
  have hw:IntKind.i64.wrap ((k:Int)+1)=(k:Int)+1:=by rw[IntKind.wrap_i64];omega
  generalize mkA A dD x=A' at *
  have:i=0\/i=2\/i=3\/i=4\/i=5\/i=6\/i=7\/i=9\/i=10\/i=11\/i=12\/i=13\/i=14\/i=15\/i=17\/i=18:=by omega
  rcases this with rfl|rfl|rfl|rfl|rfl|rfl|rfl|rfl|rfl|rfl|rfl|rfl|rfl|rfl|rfl|rfl
  all_goals
   simp only[b6k,List.getElem?_toArray,List.getElem?_cons_zero,List.getElem?_cons_succ,qA] at ho
   subst ho
  ·simp[kD,go_sem,E7]
  ·simp[kD,go_sem,E7]
  ·have d2:=(ev 227 rfl).trans (hd 2 (by decide) (by show 2<20;decide) (by kernel_rfl))
   simp[kD,go_sem,d2]
  ·have d3:=(ev 228 rfl).trans (hd 3 (by decide) (by show 3<20;decide) (by kernel_rfl))
   simp[kD,go_sem,d3]
  ·have d4:=(ev 229 rfl).trans (hd 4 (by decide) (by show 4<20;decide) (by kernel_rfl))
   have c15:=hb (.inl rfl)
   simp[kD,go_sem,d4,c15]
  ·simp[kD,go_sem,E9]
  ·have d5:=(ev 230 rfl).trans (hd 5 (by decide) (by show 5<20;decide) (by kernel_rfl))
   have d6:=(ev 231 rfl).trans (hd 6 (by decide) (by show 6<20;decide) (by kernel_rfl))
   have kc:¬ cD<k:=by omega
   simp[kD,go_sem,d5,d6,kc]
  ·simp[kD,go_sem,E7]
  ·have d9:=(ev 234 rfl).trans (hd 9 (by decide) (by show 9<20;decide) (by kernel_rfl))
   simp[kD,go_sem,d9]
  ·have d10:=(ev 235 rfl).trans (hd 10 (by decide) (by show 10<20;decide) (by kernel_rfl))
   simp[kD,go_sem,d10]
  ·have d11:=(ev 236 rfl).trans (hd 11 (by decide) (by show 11<20;decide) (by kernel_rfl))
   have c15:=hb (.inr rfl)
   simp[kD,go_sem,d11,c15]
  ·simp[kD,go_sem,E9]
  ·have d13:=(ev 238 rfl).trans (hd 13 (by decide) (by show 13<20;decide) (by kernel_rfl))
   simp[kD,go_sem,d13,hw]
  ·have d12:=(ev 237 rfl).trans (hd 12 (by decide) (by show 12<20;decide) (by kernel_rfl))
   have d14:=(ev 239 rfl).trans (hd 14 (by decide) (by show 14<20;decide) (by kernel_rfl))
   have kc:(0:Int)<=(k:Int)+1/\(k:Int)+1<=(H.length:Int):=by omega
   simp[kD,go_sem,d12,d14,kc]
  ·have d0:=(ev 225 rfl).trans (hd 0 (by decide) (by show 0<20;decide) (by kernel_rfl))
   simp[kD,go_sem,d0]
  ·have d17:=(ev 242 rfl).trans (hd 17 (by decide) (by show 17<20;decide) (by kernel_rfl))
   simp[kD,go_sem,d17]
 ·intro q hq x V hΩ hd o' ho
  have hq:q<4:=hq
  have ev:∀ k,(dD.contains k && decide (k<263))=true->(mkA A dD x).tmps[k]?.getD Uz=x k:=fun k h=>Jt x (by rw[qg];exact h)
  have hb:=hΩ.1 hq
  have VB:∀ d j,(⟨gh,d,none⟩:Addr).add j=⟨gh,d+j,none⟩:=fun d j=>by
   rw[Addr.add]
   split
   ·rename_i h;rw[h];rfl
   ·rfl
  have ui:∀ d j u,(encI (H.drop d))[j]?=some u->V.cell? ⟨gh,d+j,none⟩=some u:=fun d j u hj=>by
   rw[encI,List.getElem?_map,List.getElem?_drop] at hj
   obtain⟨y,hy,rfl⟩:=Option.map_eq_some_iff.1 hj
   obtain⟨h1,rfl⟩:=List.getElem?_eq_some_iff.1 hy
   exact((Ce hb).1 _ _ (cell_lt (hr _ h1))).trans (hr _ h1)
  have OI:∀ j u,(encI (H.take k))[j]?=some u->V.cell? ⟨gh,j,none⟩=some u:=fun j u hj=>by
   have:=ui 0 j u (by
    rw[encI,List.getElem?_map,List.getElem?_take] at hj
    split at hj
    ·rw[encI,List.getElem?_map,List.drop_zero];exact hj
    ·cases hj)
   rwa [dR] at this
  obtain rfl|rfl|rfl|rfl:q=0\/q=1\/q=2\/q=3:=by omega
  all_goals
   simp only[b6k,nZ,oC,List.getElem?_toArray,List.getElem?_cons_zero,List.getElem?_cons_succ,qA] at ho
   subst ho
  ·generalize mkA A dD x=A' at *
   refine Y2 (v:=Y (some ⟨V.heap.size,0,none⟩) 0 0) (w':=V.alloc (.cells #[] 3)) (by simp only[kD];simp[go_sem]) ⟨_,rfl,fun _=>hb.alloc hb.size _,fun _=>⟨V.heap.size,?_,Xm V 3 1 _ hb.size⟩,(fun h=>by cases h),(fun h=>by cases h),(fun h=>by cases h)⟩
   show Eu x 226 _ 226=_
   simp[Eu]
  ·have h7:=(ev 232 rfl).trans (hd 7 (by decide) (by show 7<20;decide) (by kernel_rfl))
   have h1:=ev 226 rfl
   generalize mkA A dD x=A' at *
   refine pY (hΩ.2.1 rfl) fun b hB=>?_
   obtain⟨i0,uS,ng,qj,pq⟩:=info_parts iI
   refine pY (Xq (W:=V) W.heap.size 23 23 3 i0 (O J 0) 1 8 underlying23 uS ng qj pq rfl (by decide) b hB.2 (some ⟨gh,0,none⟩) k cD (encI (H.take k)) (by rw[Dz,jO];omega) (fun h=>by cases h) (fun ad e j u hj=>by injection e with e;subst e;rw[VB,dR];exact OI j u hj) (Hg _) (by unfold maxLen;omega) (by omega) hb.size) fun v' h2=>?_
   refine pY h2 fun w' h3=>?_
   refine Y2 (Ox rfl (by rw[oQ,Array.getD_eq_getD_getElem?];exact h1.trans hB.1) (by rw[oQ,Array.getD_eq_getD_getElem?];exact h7) h3.1) ⟨_,rfl,fun _=>hb.trans (h3.2.2.mono hb.size),(fun h=>by cases h),fun _=>?_,(fun h=>by cases h),(fun h=>by cases h)⟩
   show w'.ownsRow _ 3 1 (Eu x 233 _ 233) _ _
   simpa [Eu] using h3.2.1
  ·have xB:=(ev 240 rfl).trans (hd 15 (by decide) (by show 15<20;decide) (by kernel_rfl))
   have h8:=ev 233 rfl
   generalize mkA A dD x=A' at *
   have hO:=hΩ.2.2.1 rfl
   have ha:∃ a,(if cD=k+1 then some ⟨gh,0,none⟩ else some (⟨gh,k+1,none⟩:Addr))=some a/\∀ j u,(encI (H.drop (k+1)))[j]?=some u->V.cell? (a.add j)=some u:=by
    by_cases hc:cD=k+1
    ·refine⟨_,af hc,fun j u hj=>?_⟩
     rw[List.drop_of_length_le (by omega)] at hj
     simp[encI] at hj
    ·exact⟨_,ae hc,fun j u hj=>by rw[VB];exact ui (k+1) j u hj⟩
   refine pY ha fun a ha=>?_
   obtain⟨i0,uS,ng,qj,pq⟩:=info_parts iI
   refine pY (run_append_own_at (w:=V) W.heap.size 23 23 3 i0 (O J 0) 1 8 underlying23 uS ng qj pq rfl (by decide) (x 233) k (encI (H.take k)) hO a (H.length - (k+1)) (cD - (k+1)) (encI (H.drop (k+1))) (by rw[Dz,jP];omega) ha.2 (Hg _) (by unfold maxLen;omega) (by omega) hb.size) fun v' h2=>?_
   refine pY h2 fun w' h3=>?_
   refine Y2 (Ox rfl (by rw[oQ,Array.getD_eq_getD_getElem?];exact h8) (by rw[oQ,Array.getD_eq_getD_getElem?];exact xB.trans (congrArg (fun p=>Value.slice p (H.length - (k+1)) (cD - (k+1))) ha.1)) h3.1) ⟨_,rfl,fun _=>hb.grown h3.2.2.1 hb.size (fun j hj=>(hO.lt j hj).1),(fun h=>by cases h),(fun h=>by cases h),fun _=>?_,(fun h=>by cases h)⟩
   show w'.ownsRow _ 3 1 (Eu x 241 _ 241) _ _
   simpa [Eu] using h3.2.1
  ·have yw:=(ev 243 rfl).trans (hd 18 (by decide) (by show 18<20;decide) (by kernel_rfl))
   have h16:=ev 241 rfl
   have hO:=hΩ.2.2.2.1 rfl
   generalize mkA A dD x=A' at *
   have he:H.eraseIdx k=H.take k++H.drop (k+1):=List.eraseIdx_eq_take_drop_succ ..
   have hl:(H.eraseIdx k).length=k+(H.length - (k+1)):=by rw[he,List.length_append,jO,jP];omega
   have hO':V.ownsRow W.heap.size 3 1 (x 241) (H.eraseIdx k).length (encI (H.eraseIdx k)):=by
    rw[hl,he,encI,List.map_append]
    exact hO
   refine pY (Bg hO') fun aN h2=>?_
   refine pY h2 fun cN h3=>?_
   have c15:=((Ce hb).1 _ _ (cell_lt xB)).trans xB
   have BM:=(hb.frozen (p:=⟨g,o+15,none⟩) (cell_lt xB)).trans QC
   have h16':=h16.trans h3
   refine wp_skip (w':=V.setCell ⟨g,o+15,none⟩ (Y aN (H.eraseIdx k).length cN)) (by simp[kD,go_sem,yw,h16',c15,BM]) ⟨_,rfl,(fun h=>by omega),(fun h=>by cases h),(fun h=>by cases h),(fun h=>by cases h),fun _=>⟨V,aN,cN,hb,?_,rfl⟩⟩
   rw[<- h3];exact hO'
 ·rintro x V hΩ -
  obtain⟨w2,aN,cN,h1,h2,rfl⟩:=hΩ.2.2.2.2 rfl
  exact um x w2 aN cN h1 h2
def b6j(s:String):Array Oper:=#[⟨some 102,.move (.tmp 7),113,s,#[],none⟩,⟨some 103,.move (.tmp 7),113,s,#[⟨7,.gcOnly .lateStores⟩],none⟩,⟨some 104,.fieldAddr 34 (.tmp 3) 3,0,s,#[],none⟩,⟨some 105,.load 32 (.tmp 104),32,s,#[⟨2,.data⟩],none⟩,⟨some 106,.build 47 #[(0,.tmp 105),(4,.const (O J (-1)))],47,s,#[⟨3,.data⟩],none⟩,⟨some 107,.nilCheck (.tmp 102),0,s,#[⟨0,.data⟩,⟨0,.phase⟩,⟨1,.textOnly .lateStores⟩,⟨2,.textOnly .lateStores⟩,⟨3,.textOnly .lateStores⟩,⟨4,.textOnly .lateStoresUnsure⟩],none⟩,⟨some 108,.fieldAddr 49 (.tmp 107) 0,0,s,#[⟨5,.data⟩,⟨0,.phase⟩,⟨1,.textOnly .lateStores⟩,⟨2,.textOnly .lateStores⟩,⟨3,.textOnly .lateStores⟩,⟨4,.textOnly .lateStoresUnsure⟩],none⟩,⟨none,.store 4 (.tmp 108) (.const (.bool true)),0,s,#[⟨6,.data⟩,⟨0,.phase⟩,⟨1,.textOnly .lateStores⟩,⟨2,.textOnly .lateStores⟩,⟨3,.textOnly .lateStores⟩,⟨4,.textOnly .lateStoresUnsure⟩],none⟩,⟨some 109,.nilCheck (.tmp 103),0,s,#[⟨1,.data⟩,⟨0,.phase⟩,⟨1,.phase⟩,⟨2,.phase⟩,⟨3,.phase⟩,⟨4,.phase⟩,⟨5,.phase⟩,⟨6,.phase⟩,⟨7,.phase⟩],none⟩,⟨some 110,.fieldAddr 49 (.tmp 109) 1,0,s,#[⟨8,.data⟩,⟨0,.phase⟩,⟨1,.phase⟩,⟨2,.phase⟩,⟨3,.phase⟩,⟨4,.phase⟩,⟨5,.phase⟩,⟨6,.phase⟩,⟨7,.phase⟩],none⟩,⟨none,.store 47 (.tmp 110) (.tmp 106),0,s,#[⟨9,.data⟩,⟨4,.data⟩,⟨7,.chain⟩,⟨0,.phase⟩,⟨1,.phase⟩,⟨2,.phase⟩,⟨3,.phase⟩,⟨4,.phase⟩,⟨5,.phase⟩,⟨6,.phase⟩,⟨7,.phase⟩],none⟩]
def dB:List Nat:=[102,103,104,105,106,107,108,109,110]
theorem a3c{x:Operand}{a:Act}{V:Wq}{g o:Nat}{c:Cl}(ho:op.op=.load 32 x)(hx:a.eval x=.pointer (some ⟨g,o,none⟩))(h:V.rangeAt g o [O J c.k,O J c.a,O J c.b,O J c.t,O J c.q,O J c.h]):(kD a.eval op).run Pg V=.ok (.value (.agg #[O J c.k,O J c.a,O J c.b,O J c.t,O J c.q,O J c.h])) V:=by
 unfold kD
 simp only[ho,hx,Instr.loadAt,Instr.sureAddr,Sem.run_bind,Sem.run_pure,Result.andThen_ok,run_loadVar_mid V g o 32 [O J c.k,O J c.a,O J c.b,O J c.t,O J c.q,O J c.h] _ h underlying32 rfl (by kernel_rfl)]
theorem b4n{B g o:Nat}{c:Cl}{b0:dU}(qg:A.tmps.size=263)(e3:A.eval (.tmp 3)=.pointer (some ⟨B+1,0,none⟩))(e7:A.eval (.tmp 7)=.pointer (some ⟨g,o,none⟩))(hr:W.rangeAt (B+1) 3 [O J c.k,O J c.a,O J c.b,O J c.t,O J c.q,O J c.h])(hc:W.cell? ⟨g,o,none⟩=some b0)(hz:W.frozen? ⟨g,o,none⟩=false)(ht:W.there g (o+1) 14)(hBg:B+1≠g)(um:∀ x V,Below W.heap.size W V->Q .normal (mkA A dB x) ((V.setCell ⟨g,o,none⟩ (.bool true)).setCells g (o+1) ((Df c).enc none 0))):(Code.region id (b6j st) true).wp Pg Q A W:=by
 have hBz:B+1<W.heap.size:=cell_lt (hr 0 _ rfl)
 have vT:=cell_lt hc
 refine Iq (by kernel_rfl) [102,103,104,105,106,107,108,1000,109,110,1001] dB [7,10] [1,1,1,1,1,1,1,0,2,1,0]
  [.pointer (some ⟨g,o,none⟩),.pointer (some ⟨g,o,none⟩),.pointer (some ⟨B+1,3,none⟩),.agg #[O J c.k,O J c.a,O J c.b,O J c.t,O J c.q,O J c.h],.agg #[O J c.k,O J c.a,O J c.b,O J c.t,O J c.q,O J c.h,O J 0,O J 0,O J 0,O J (-1),O J 0,Y none 0 0,.bool false,O J 0],.pointer (some ⟨g,o,none⟩),.pointer (some ⟨g,o,none⟩),Uz,.pointer (some ⟨g,o,none⟩),.pointer (some ⟨g,o+1,none⟩),Uz]
  (fun p x V=>(p=0->Below W.heap.size W V)/\(p=1->∃ V0,Below W.heap.size W V0/\V=V0.setCell ⟨g,o,none⟩ (.bool true))/\(p=2->∃ V0,Below W.heap.size W V0/\V=(V0.setCell ⟨g,o,none⟩ (.bool true)).setCells g (o+1) ((Df c).enc none 0)))
  (by kernel_rfl) (fun V h hs=>⟨fun _=>h,(fun h=>by cases h),(fun h=>by cases h)⟩) ?_ ?_ ?_ ?_
 ·rintro p x x' V h hp
  exact hp
 ·intro i hi vz p x V hp hΩ hd o' ho
  have hi:i<11:=hi
  have n8:i≠7/\i≠10:=⟨fun e=>vz (by simp[e]),fun e=>vz (by simp[e])⟩
  have E3:=Dw (A:=A) (D:=dB) x (k:=3) rfl e3
  have E7:=Dw (A:=A) (D:=dB) x (k:=7) rfl e7
  have ev:∀ k,(dB.contains k && decide (k<263))=true->(mkA A dB x).tmps[k]?.getD Uz=x k:=fun k h=>Jt x (by rw[qg];exact h)
  have TY:i=3->V.rangeAt (B+1) 3 [O J c.k,O J c.a,O J c.b,O J c.t,O J c.q,O J c.h]:=fun h=>by
   subst h
   have AY:p=0\/p=1:=by
    have:p<=1:=hp
    omega
   rcases AY with rfl|rfl
   ·exact Ed hr (hΩ.1 rfl) hBz
   ·obtain⟨V0,hb,rfl⟩:=hΩ.2.1 rfl
    intro j v hj
    exact(World.cell?_of_block (a:=⟨B+1,3+j,none⟩) (dM _ _ _ _ (by dsimp only;exact hBg))).trans (Ed hr hb hBz j v hj)
  generalize mkA A dB x=A' at *
  have:i=0\/i=1\/i=2\/i=3\/i=4\/i=5\/i=6\/i=8\/i=9:=by omega
  rcases this with rfl|rfl|rfl|rfl|rfl|rfl|rfl|rfl|rfl
  all_goals
   simp only[b6j,List.getElem?_toArray,List.getElem?_cons_zero,List.getElem?_cons_succ,qA] at ho
   subst ho
  ·simp[kD,go_sem,E7]
  ·simp[kD,go_sem,E7]
  ·simp[kD,go_sem,E3]
  ·have:=(ev 104 rfl).trans (hd 2 (by decide) (by show 2<11;decide) (by kernel_rfl))
   exact a3c rfl (by rw[oQ,Array.getD_eq_getD_getElem?];exact this) (TY rfl)
  ·have:=(ev 105 rfl).trans (hd 3 (by decide) (by show 3<11;decide) (by kernel_rfl))
   simp[kD,go_sem,this]
  ·have:=(ev 102 rfl).trans (hd 0 (by decide) (by show 0<11;decide) (by kernel_rfl))
   simp[kD,go_sem,this]
  ·have:=(ev 107 rfl).trans (hd 5 (by decide) (by show 5<11;decide) (by kernel_rfl))
   simp[kD,go_sem,this]
  ·have:=(ev 103 rfl).trans (hd 1 (by decide) (by show 1<11;decide) (by kernel_rfl))
   simp[kD,go_sem,this]
  ·have:=(ev 109 rfl).trans (hd 8 (by decide) (by show 8<11;decide) (by kernel_rfl))
   simp[kD,go_sem,this]
 ·intro q hq x V hΩ hd o' ho
  have hq:q<2:=hq
  have ev:∀ k,(dB.contains k && decide (k<263))=true->(mkA A dB x).tmps[k]?.getD Uz=x k:=fun k h=>Jt x (by rw[qg];exact h)
  obtain rfl|rfl:q=0\/q=1:=by omega
  all_goals
   simp only[b6j,nZ,oC,List.getElem?_toArray,List.getElem?_cons_zero,List.getElem?_cons_succ,qA] at ho
   subst ho
  ·have h6:=(ev 108 rfl).trans (hd 6 (by decide) (by show 6<11;decide) (by kernel_rfl))
   have hb:=hΩ.1 rfl
   have c0:=((Ce hb).1 _ _ vT).trans hc
   have f0:=(hb.frozen (p:=⟨g,o,none⟩) vT).trans hz
   generalize mkA A dB x=A' at *
   exact wp_skip (w':=V.setCell ⟨g,o,none⟩ (.bool true)) (by simp[kD,go_sem,h6,c0,f0]) ⟨_,rfl,(fun h=>by cases h),fun _=>⟨V,hb,rfl⟩,(fun h=>by cases h)⟩
  ·have h9:=(ev 110 rfl).trans (hd 9 (by decide) (by show 9<11;decide) (by kernel_rfl))
   have h4:=(ev 106 rfl).trans (hd 4 (by decide) (by show 4<11;decide) (by kernel_rfl))
   generalize mkA A dB x=A' at *
   refine pY (hΩ.2.1 rfl) fun V0 hV=>?_
   have vZ:V.there g (o+1) 14:=by
    rw[hV.2]
    refine World.there_setCells (w:=V0) (fun j hj=>?_) g o [.bool true]
    rw[(Ce hV.1).1 _ _ vT,hV.1.frozen vT]
    exact ht j hj
   refine wp_store_mid 47 (.tmp 110) (.tmp 106) rfl g (o+1) #[O J (((Df c)).c).k,O J (((Df c)).c).a,O J (((Df c)).c).b,O J (((Df c)).c).t,O J (((Df c)).c).q,O J (((Df c)).c).h,O J ((Df c)).l,O J ((Df c)).u,O J ((Df c)).p,O J ((Df c)).h,O J ((Df c)).n,Y none ((Df c)).t.length 0,.bool ((Df c)).d,O J ((Df c)).e] (by rw[oQ,Array.getD_eq_getD_getElem?];exact h9) (by rw[oQ,Array.getD_eq_getD_getElem?];exact h4) vZ (by kernel_rfl) (by kernel_rfl) ⟨Uz,rfl,(fun h=>by cases h),(fun h=>by cases h),fun _=>⟨V0,hV.1,?_⟩⟩
   rw[hV.2]
   rfl
 ·rintro x V hΩ -
  obtain⟨V0,h1,rfl⟩:=hΩ.2.2 rfl
  exact um x V0 h1
section
section
variable {w W3:Wq} {n0 dw:Nat} {aS aH aF aL:Option Addr} {cS cH cF cL g cT n:Nat} {M:Mm} {l:List (Tk × TkV)} {x:Pk} {B lo:Nat}
theorem PkH.below(h:PkH w W3 n0 dw aS aH aF aL cS cH cF cL g cT n M l x)(hb:Below W3.heap.size W3 V):PkH w V n0 dw aS aH aF aL cS cH cF cL g cT n M l x :=
 ⟨h.wm.below hb,h.ok,h.we,(hb.block _ (lt_of_block h.bx)).trans h.bx,(hb.block _ (lt_of_block h.bz)).trans h.bz,h.big,h.bel.trans (hb.mono h.bel.size)⟩
theorem b6q(h:WM V n0 B lo dw aS aH aF aL cS cH cF cL M g cT n l){i:Nat}(hi:i<l.length)(c:Cl) :
  WP n0 B ⟨M,(l.map (·.1)).set i ⟨true,Df c,l[i].1.u⟩⟩ V ((V.setCell ⟨g,i*16,none⟩ (.bool true)).setCells g (i*16+1) ((Df c).enc none 0)):=by
 have h1:=h.t.setB hi true
 have uN:i<(l.set i (⟨true,l[i].1.f,l[i].1.u⟩,l[i].2)).length:=by rw[dZ];exact hi
 have h2:=h1.a4j uN (Df c) none 0 (Nh _) (fun _ h=>by cases h) (fun h=>absurd rfl h) (fun h=>absurd rfl h)
 rw[List.set_set,mF] at h2
 have vT:=h.t.glo
 have h3:=h.hlo2
 have EW:∀ k,k≠g->((V.setCell ⟨g,i*16,none⟩ (.bool true)).setCells g (i*16+1) ((Df c).enc none 0)).heap[k]?=V.heap[k]?:=fun k hk=>(Af hk _ _ _).trans (dM _ _ _ _ (by dsimp only;exact hk))
 have hs:V.heap.size=((V.setCell ⟨g,i*16,none⟩ (.bool true)).setCells g (i*16+1) ((Df c).enc none 0)).heap.size:=by rw[setCells_size,eQ]
 refine Vd (w:=V) (w':=(V.setCell ⟨g,i*16,none⟩ (.bool true)).setCells g (i*16+1) ((Df c).enc none 0)) (Z:=Ac B aS aH aF aL) ⟨aS,aH,aF,aL,cS,cH,cF,cL,h.m.same (w':=(V.setCell ⟨g,i*16,none⟩ (.bool true)).setCells g (i*16+1) ((Df c).enc none 0)) (Nat.le_of_eq hs) (fun k _ hk=>EW k fun e=>h.ap k hk (by rw[e];exact .inl rfl)),fun _ h=>h⟩ h2 (by rw[dZ];exact h.len) h.hlo h.hlo2 ⟨(Au _ _ _).1,(Au _ _ _).2.1,(Au _ _ _).2.2,Nat.le_of_eq hs,fun k hk _=>EW k (by omega)⟩ (by rw[List.map_set])
theorem b0y(h:PkH w W3 n0 dw aS aH aF aL cS cH cF cL g cT n M l x)(ht:x.tick=false)(hx:x.s=i)(hi:i<l.length)(hs:x.step=false)(CG:l[i].1.u.length<=100){E:Int}(hEb:E=a0l M l[i].1 x.c)(hE:Qi (doE ⟨M,l.map (·.1)⟩ x=E))(hW:Qi (doW ⟨M,l.map (·.1)⟩ x=⟨M,(l.map (·.1)).set i ⟨true,Df x.c,l[i].1.u⟩⟩))(v0 v1 v11 v12:dU) :
  Code.wp Pg (I8 (I8 (I8 (Tryz.f22.body.getD .skip)))) (bodyPost Pg Tryz.f22 (Ku w ⟨M,l.map (·.1)⟩ x)) (Om w.heap.size v0 v1 v11 v12) W3:=by
 have qP:=bJ hi
 have ig:=h.ok.ns
 have jf:=h.ok.nh
 obtain⟨C0,wY⟩:∃ C0,C0=Dh M.s.length M.h.length x.c:=⟨_,rfl⟩
 have HC:Qi (Calls Pg 68 #[Cm aS aH aF aL cS cH cF cL M,Gj x.c] W3 fun e w'=>e=.returned (O J C0)/\Below W3.heap.size W3 w'):=Z4 wY aS aH aF aL _ _ cS cH cF cL M.w W3 (by omega) (by omega)
 have HEb:Qi (E=if l[i].1.b then 8 else if C0≠0 then C0 else if x.c.k=1/\100<=l[i].1.u.length then 7 else if x.c.k=6/\hasB l[i].1.u x.c.h=false then 6 else 0):=by rw[wY];exact hEb
 obtain⟨x0,x1,x2,x3,x4,x5,x6,x7,x8,xs⟩:=Ql h.bx
 obtain⟨q0,q1,q2,q3,q4,q5,qs⟩:=Bh h.wm.m.box
 have HP:Qi (PkH w W3 n0 dw aS aH aF aL cS cH cF cL g cT n M l x):=h
 rw[ht] at x2
 rw[hs] at x1
 rw[hx] at x0
 have hn:(i:Int)<(n:Int):=by have:=h.wm.len;omega
 have yE:n<=5:=by rw[<- h.wm.len];exact h.wm.t.few
 clear h ht hs hx wY hEb ig jf
 unfold Om
 conv=>arg 2;whnf
 go_wp2_with fail
 refine HC.o.mono ?_
 rintro e W4 ⟨rfl,qK⟩
 have FN:Qi (PkH w W4 n0 dw aS aH aF aL cS cH cF cL g cT n M l x):=HP.o.below qK
 clear HP HC qK x0 x1 x2 x3 x4 x5 x6 x7 x8 q0 q1 q2 q3 q4 q5 xs qs
 obtain⟨x0,x1,x2,x3,x4,x5,x6,x7,x8,xs⟩:=Ql FN.o.bx
 have d0:W4.cell? ⟨g,i*16,none⟩=some (.bool l[i].1.b):=(FN.o.wm.t.b hi).1
 have JQ:W4.cell? ⟨g,i*16+15,none⟩=some (Y l[i].2.aH l[i].1.u.length l[i].2.cH):=(FN.o.wm.t.a1i hi).1
 have HR:Qi (Dk W4 l[i].2.aH l[i].2.cH l[i].1.u):=FN.o.wm.t.a8q.u _ qP
 have wP:Qi (∀ k,Calls Pg 33 #[Y l[i].2.aH l[i].1.u.length l[i].2.cH,O J x.c.h] (W4.drewN k) fun e w'=>e=.returned (.bool (hasB l[i].1.u x.c.h))/\w'=W4.drewN k):=fun k=>by
  have r:=b0b HR.o k
  have h:=Ic l[i].2.aH l[i].1.u.length l[i].2.cH l[i].1.u x.c.h (W4.drewN k) (aC _) (by have:=r.max;omega) r.at_
  refine h.mono ?_
  rintro e w' ⟨rfl,rfl⟩
  exact⟨by rw[jS],rfl⟩
 obtain⟨kd,OA⟩:∃ kd,kd=x.c.k:=⟨_,rfl⟩
 obtain⟨hb,hhb⟩:∃ hb,hb=hasB l[i].1.u x.c.h:=⟨_,rfl⟩
 obtain⟨bz,GI⟩:∃ bz,bz=l[i].1.b:=⟨_,rfl⟩
 obtain⟨len,jb⟩:∃ len,len=l[i].1.u.length:=⟨_,rfl⟩
 have hm15:=HR.o.max
 rw[<- OA] at x3
 rw[<- jb] at JQ wP hm15 CG
 rw[<- GI] at d0
 rw[<- hhb] at wP
 rw[<- GI,<- OA,<- jb,<- hhb] at HEb
 have Hkd:Qi (kd=x.c.k):=OA
 clear OA hhb GI jb HR
 have wU:(bz=true/\E=8)\/(bz=false/\C0≠0/\E=C0)\/(bz=false/\C0=0/\kd=1/\len=100/\E=7)\/(bz=false/\C0=0/\kd=6/\hb=false/\E=6)\/(bz=false/\C0=0/\(kd=1->len≠100)/\(kd=6->hb=true)/\E=0):=by
  have:=HEb.o
  cases bz
  ·refine .inr ?_
   by_cases h1:C0=0
   ·refine .inr ?_
    subst h1
    simp only[Bool.false_eq_true,if_false,ne_eq,not_true_eq_false] at this
    by_cases h2:kd=1/\100<=len
    ·rw[af h2] at this
     exact .inl ⟨rfl,rfl,h2.1,by omega,this⟩
    ·rw[ae h2] at this
     refine .inr ?_
     by_cases h3:kd=6/\hb=false
     ·rw[af h3] at this
      exact .inl ⟨rfl,rfl,h3.1,h3.2,this⟩
     ·rw[ae h3] at this
      exact .inr ⟨rfl,rfl,fun e h=>h2 ⟨e,by omega⟩,fun e=>by cases hb;exact absurd ⟨e,rfl⟩ h3;rfl,this⟩
   ·rw[ae (by simp),af h1] at this
    exact .inl ⟨rfl,h1,this⟩
  ·exact .inl ⟨rfl,by simpa using this⟩
 clear HEb
 have hd15:¬ (kd=1/\kd=6):=by omega
 rcases wU with ⟨rfl,rfl⟩|⟨rfl,hC,rfl⟩|⟨rfl,rfl,rfl,rfl,rfl⟩|⟨rfl,rfl,rfl,rfl,rfl⟩|⟨rfl,rfl,ry,EP,rfl⟩
 rotate_left 4
 ·have NR:(kd=1/\((len:Int)==100)=false)\/(kd=6/\hb=true)\/((kd==1)=false/\(kd==6)=false):=by
   by_cases h1:kd=1
   ·exact .inl ⟨h1,by have:=ry h1;simp;omega⟩
   ·by_cases h6:kd=6
    ·exact .inr (.inl ⟨h6,EP h6⟩)
    ·exact .inr (.inr ⟨by simpa using h1,by simpa using h6⟩)
  clear ry EP hd15
  rcases NR with ⟨rfl,h100⟩|⟨rfl,rfl⟩|⟨h1,h6⟩
  all_goals
   go_wp2_with fail
   go_quiet (first|(go_at_call 33;exact Calls.quiet_of_same (wP.o _)))
   have yP:Qi (PkH w (W4.drewN nq) n0 dw aS aH aF aL cS cH cF cL g cT n M l x):=FN.o.below (below_drewN (dK _ _) nq)
   clear wP FN x0 x1 x2 x3 x4 x5 x6 x7 x8 d0 JQ
   generalize W4.drewN nq=W5 at *
   go_wp2_with fail
   refine b4n (c:=x.c) rfl rfl rfl (Aq yP.o.bx rfl) (yP.o.wm.t.b hi).1 (yP.o.wm.t.b hi).2 (yP.o.wm.t.there hi (by decide)) (by have h1:=yP.o.wm.t.glo;have h2:=yP.o.wm.hlo2;have h3:=yP.o.big;omega) fun y V EX=>?_
   have HV:=yP.o.below EX
   obtain⟨c0,c1,c2,c3,c4,c5,r6,t6,o6,b6,hQ⟩:=Oe (b6q HV.wm hi x.c) HV.bz HV.big HV.bel hE.o hW.o.symm
   have R6:Qi _:=r6
   have T6:Qi _:=t6
   have HQ:Qi _:=hQ
   obtain⟨z0,z1,z2,z3,z4,z5,zs⟩:=Bh b6
   simp only[mkA,dB,qF,qG,Act.put,qB,fV,qE]
   clear r6 t6 hQ HV yP hE hW EX
   generalize (V.setCell ⟨g,i*16,none⟩ (.bool true)).setCells g (i*16+1) ((Df x.c).enc none 0)=W6 at *
   go_wp2_with (first|(refine F8 rfl (.tmp 2) rfl rfl R6.o ?_;clear R6)|(refine Iu rfl (.tmp 4) (.tmp 111) rfl rfl rfl T6.o o6 ?_;clear T6))
   generalize W6.setCells (w.heap.size+1+1) 0 [c0,c1,c2,c3,c4,c5]=W7 at *
   refine gZ (v:=.tuple #[.agg #[c0,c1,c2,c3,c4,c5],O J 0]) (by simp[iH,results22,go_sem,z0,z1,z2,z3,z4,z5]) rfl HQ.o
 focus
  have lh:(8:Int)≠0:=by decide
  clear wP
  go_wp2_with fail
  have yP:Qi (PkH w W4 n0 dw aS aH aF aL cS cH cF cL g cT n M l x):=FN.o
 rotate_left
 focus
  have lh:=hC
  have hC':(E != 0)=true:=by simpa using hC
  clear wP
  go_wp2_with fail
  have yP:Qi (PkH w W4 n0 dw aS aH aF aL cS cH cF cL g cT n M l x):=FN.o
 rotate_left
 focus
  have lh:(7:Int)≠0:=by decide
  clear wP
  go_wp2_with fail
  have yP:Qi (PkH w W4 n0 dw aS aH aF aL cS cH cF cL g cT n M l x):=FN.o
 rotate_left
 focus
  have lh:(6:Int)≠0:=by decide
  go_wp2_with fail
  go_quiet (first|(go_at_call 33;exact Calls.quiet_of_same (wP.o _)))
  have yP:Qi (PkH w (W4.drewN nq) n0 dw aS aH aF aL cS cH cF cL g cT n M l x):=FN.o.below (below_drewN (dK _ _) nq)
  clear wP FN
  generalize W4.drewN nq=W5 at *
  go_wp2_with fail
 all_goals
  refine(Sz _ _).mono ?_
  rintro e V ⟨rfl,EX⟩
  obtain⟨t6,r6,HR⟩:=Vw yP.o.bz yP.o.bel hE.o lh EX
  clear yP hE EX x0 x1 x2 x3 x4 x5 x6 x7 x8 d0 JQ
  go_wp2_with (refine Iu rfl (.tmp 4) (.tmp 100) rfl rfl rfl t6.o (by kernel_rfl) ?_;clear t6)
  generalize V.setCells (w.heap.size+1+1) 0 _=V2 at *
  obtain⟨r0,r1,r2,r3,r4,r5,rs⟩:=Bh r6.o
  refine gZ (v:=.tuple #[.agg #[Y none 0 0,Y none 0 0,Y none 0 0,Y none 0 0,O J 0,Y none 0 0],O J _]) (by simp[iH,results22,go_sem,r0,r1,r2,r3,r4,r5]) rfl HR.o
end
end
section
section
variable {w W3:Wq} {n0 dw:Nat} {aS aH aF aL:Option Addr} {cS cH cF cL g cT n:Nat} {M:Mm} {l:List (Tk × TkV)} {x:Pk} {B lo:Nat}
theorem b6p(h:WM W3 n0 B lo dw aS aH aF aL cS cH cF cL M g cT n l){i:Nat}(hi:i<l.length){N:Mm}{V w2:Wq}(HH:Has (Xw (some ⟨g,0,none⟩) n cT) V B lo (Up W3 (Ac B aS aH aF aL)) N)(hF:Fine W3 V (Ac B aS aH aF aL)){H:List Int}{aN:Option Addr}{cN:Nat}(hb:Below V.heap.size V w2)(ho:w2.ownsRow V.heap.size 3 1 (Y aN H.length cN) H.length (encI H))(hm:H.length<=1000) :
  Cf (w2.setCell ⟨g,i*16+15,none⟩ (Y aN H.length cN)) dw g cT (l.set i (⟨l[i].1.b,l[i].1.f,H⟩,⟨l[i].2.aK,l[i].2.cK,aN,cN⟩))/\Has (Xw (some ⟨g,0,none⟩) n cT) (w2.setCell ⟨g,i*16+15,none⟩ (Y aN H.length cN)) B lo (Up W3 (Ac B aS aH aF aL)) N/\Kept W3 (w2.setCell ⟨g,i*16+15,none⟩ (Y aN H.length cN)) B n0:=by
 have T:=h.t.fine hF h.ap
 have vT:=h.t.glo
 have hz:=hF.size
 refine⟨T.setH hi H aN cN hm (ownsRow_le ho (by omega)) (fun k hk _=>hb.block k hk) (fun y hy=>.inr (ho.lt y.block (by rw[hy];rfl)).1),(HH.below hb).same (by rw[eQ];exact aC _) fun k _ hk=>dM _ _ _ _ ?_,?_⟩
 ·dsimp only
  rintro rfl
  rcases hk with hk|hk
  ·exact h.ap _ hk (.inl rfl)
  ·omega
 ·have hk:=h.kept (hF.mono (Z':=fun k=>Ac B aS aH aF aL k\/TB g l k) fun k hk=>.inl hk)
  have h1:=h.hlo2
  have h2:=h.size
  refine⟨hb.os.trans hk.os,hb.tape.trans hk.tape,hb.output.trans hk.output,by rw[eQ];have:=hb.size;omega,fun k rO iw=>?_⟩
  exact(dM _ _ _ _ (by dsimp only;omega)).trans ((hb.block k (by omega)).trans (hk.block k rO iw))
theorem a5w(h:WM W3 n0 B lo dw aS aH aF aL cS cH cF cL M g cT n l){i:Nat}(hi:i<l.length){N:Mm}{V w9:Wq}{b:Bool}{f F:Fr}{H:List Int}{v:TkV}(T:Cf V dw g cT (l.set i (⟨b,f,H⟩,v)))(HH:Has (Xw (some ⟨g,0,none⟩) n cT) V B lo (Up W3 (Ac B aS aH aF aL)) N)(hK:Kept W3 V B n0)(hb:Below V.heap.size V w9)(hk:F.t=f.t) :
  w9.there g (i*16+1) 14/\Cf (w9.setCells g (i*16+1) (F.enc v.aK v.cK)) dw g cT (l.set i (⟨b,F,H⟩,v))/\Has (Xw (some ⟨g,0,none⟩) n cT) (w9.setCells g (i*16+1) (F.enc v.aK v.cK)) B lo (Up W3 (Ac B aS aH aF aL)) N/\Kept W3 (w9.setCells g (i*16+1) (F.enc v.aK v.cK)) B n0:=by
 have rQ:i<(l.set i (⟨b,f,H⟩,v)).length:=by rw[dZ];exact hi
 have vU:(l.set i (⟨b,f,H⟩,v))[i]'rQ=(⟨b,f,H⟩,v):=mF ..
 have qP:=bJ rQ
 have T9:=T.below hb
 have vT:=h.t.glo
 have hz:=hK.size
 have h1:=h.hlo2
 have k1:=T9.t _ qP
 have k2:=T9.klo _ qP
 have k3:=T9.kg _ qP
 have k4:=T9.kh _ qP
 rw[vU] at k1 k2 k3 k4
 have T2:=T9.a4j rQ F v.aK v.cK (by rw[hk];exact k1) k2 (by rw[hk];exact k3) (by rw[hk];exact k4)
 rw[vU,List.set_set] at T2
 refine⟨T9.there rQ (by decide),T2,(HH.below hb).same (by rw[setCells_size];exact aC _) fun k _ hk=>Af ?_ _ _ _,⟨(Au _ _ _).1.trans (hb.os.trans hK.os),(Au _ _ _).2.1.trans (hb.tape.trans hK.tape),(Au _ _ _).2.2.trans (hb.output.trans hK.output),by rw[setCells_size];have:=hb.size;omega,fun k rO iw=>(Af ?_ _ _ _).trans ((hb.block k ?_).trans (hK.block k rO iw))⟩⟩
 ·rintro rfl
  rcases hk with hk|hk
  ·exact h.ap _ hk (.inl rfl)
  ·omega
 ·omega
 ·have:=h.size;omega
theorem b1a(h:PkH w W3 n0 dw aS aH aF aL cS cH cF cL g cT n M l x)(ht:x.tick=false)(hx:x.s=i)(hi:i<l.length)(hs:x.step=true)(hb:l[i].1.b=true)(hk:l[i].1.f.c.k=6)(CG:l[i].1.u.length<=100)(hsl:∀ a∈l[i].1.u,Dp M a=true)(hE:Qi (doE ⟨M,l.map (·.1)⟩ x=0))(hW:Qi (doW ⟨M,l.map (·.1)⟩ x=⟨(stepT M i l[i].1).1,(l.map (·.1)).set i (stepT M i l[i].1).2⟩))(v0 v1 v11 v12:dU) :
  Code.wp Pg (I8 (I8 (I8 (Tryz.f22.body.getD .skip)))) (bodyPost Pg Tryz.f22 (Ku w ⟨M,l.map (·.1)⟩ x)) (Om w.heap.size v0 v1 v11 v12) W3:=by
 have qP:=bJ hi
 have tu:Qi (doW ⟨M,l.map (·.1)⟩ x=⟨if l[i].1.f.c.h∈l[i].1.u then Ff M l[i].1.f.c.h else M,(l.map (·.1)).set i ⟨false,Ak l[i].1.f 0,l[i].1.u.erase l[i].1.f.c.h⟩⟩):=by
  show _=_
  rw[hW.o]
  unfold stepT
  rw[ae (by omega),ae (by omega),ae (by omega),af hk]
  rfl
 have HC:Qi (l[i].1.f.c.h∈l[i].1.u->Calls Pg 72 #[Ae w.heap.size,O J l[i].1.f.c.h] W3 fun e w'=>e=.returned (.tuple #[])/\Has (Xw (some ⟨g,0,none⟩) n cT) w' w.heap.size n0 (Up W3 (Ac w.heap.size aS aH aF aL)) (Ff M l[i].1.f.c.h)/\Fine W3 w' (Ac w.heap.size aS aH aF aL)):=fun hm=>Nl ⟨aS,aH,aF,aL,cS,cH,cF,cL,h.wm.m,fun _ h=>h⟩ h.ok (hsl _ hm)
 obtain⟨x0,x1,x2,x3,x4,x5,x6,x7,x8,xs⟩:=Ql h.bx
 obtain⟨q0,q1,q2,q3,q4,q5,qs⟩:=Bh h.wm.m.box
 have d0:=(h.wm.t.b hi).1
 have d1:W3.cell? ⟨g,i*16+1,none⟩=some (O J l[i].1.f.c.k):=h.wm.t.cell (q:=1) hi (by decide)
 have d6:W3.cell? ⟨g,i*16+6,none⟩=some (O J l[i].1.f.c.h):=h.wm.t.cell (q:=6) hi (by decide)
 have JQ:W3.cell? ⟨g,i*16+15,none⟩=some (Y l[i].2.aH l[i].1.u.length l[i].2.cH):=(h.wm.t.a1i hi).1
 have HR:Qi (Dk W3 l[i].2.aH l[i].2.cH l[i].1.u):=h.wm.t.a8q.u _ qP
 have HO:Qi (W3.ownsRow dw 3 1 (Y l[i].2.aH l[i].1.u.length l[i].2.cH) l[i].1.u.length (encI l[i].1.u)):=h.wm.t.u _ qP
 have HP:Qi (PkH w W3 n0 dw aS aH aF aL cS cH cF cL g cT n M l x):=h
 rw[hb] at d0
 rw[hk] at d1
 rw[ht] at x2
 rw[hs] at x1
 rw[hx] at x0
 have hn:(i:Int)<(n:Int):=by have:=h.wm.len;omega
 have yE:n<=5:=by rw[<- h.wm.len];exact h.wm.t.few
 have Hb:Qi (l[i].1.b=true):=hb
 clear hW h ht hs hx hb hk hsl
 unfold Om
 conv=>arg 2;whnf
 go_wp2_with fail
 rename_i K2 VL K1 JM
 have vI:Qi _:=VL
 have KO:Qi _:=JM
 clear VL JM x0 x1 x2 x3 x4 x5 x6 x7 x8 q0 q1 q2 q3 q4 q5 d0 d1
 have m1:=HR.o.max
 have wQ:Qi (∀ k (h:k<l[i].1.u.length),∃ b,l[i].2.aH=some ⟨b,0,none⟩/\∀ j (h:j<l[i].1.u.length),W3.cell? ⟨b,j,none⟩=some (O J l[i].1.u[j])):=fun k h=>by
  obtain⟨b,bg,e⟩:=ownsRow_form HO.o (by omega)
  injection e with e1 e2 e3
  rcases HR.o.at_ with h0|⟨b',o,e,hc⟩
  ·omega
  ·rw[e1] at e
   injection e with e
   injection e with e4 e5
   subst e4 e5
   exact⟨b,e1,fun j hj=>by have:=hc j hj;rwa [dR] at this⟩
 obtain⟨sl,hsl⟩:∃ sl,sl=l[i].1.f.c.h:=⟨_,rfl⟩
 rw[<- hsl] at d6 HC tu
 have Hsl:Qi (sl=l[i].1.f.c.h):=hsl
 clear hsl
 obtain⟨H,hH⟩:∃ H,H=l[i].1.u:=⟨_,rfl⟩
 have HHe:Qi (H=l[i].1.u):=hH
 rw[<- hH] at HC tu CG JQ HR HO m1 wQ ⊢
 clear hH
 have vT:=HP.o.wm.t.glo
 go_loop [209] (fun v=>∃ k:Nat,k<=H.length/\v=O J k/\Qi (sl ∉ H.take k)) (fun v=>H.length - (intOf v).toNat)
 case atStart=>exact⟨0,Nat.zero_le _,rfl,by show _ ∉ _;simp⟩
 case round =>
  obtain⟨k,hk,rfl,HN⟩:=hrel
  by_cases gm:k<H.length
  ·obtain⟨gh,haH,ui⟩:=wQ.o k gm
   have BI:=ui k gm
   have KD:Qi (∀ y,H[k]=y->y≠sl->sl ∉ H.take (k+1)):=fun y e hn=>by
    show _ ∉ _
    rw[List.take_succ_eq_append_getElem gm]
    simp only[List.mem_append,List.mem_singleton,not_or]
    exact⟨HN.o,by rw[e];exact fun h=>hn h.symm⟩
   rw[haH] at JQ ⊢
   have LY:(k:Int)<(H.length:Int):=by omega
   by_cases hx:H[k]=sl
   ·have JA:sl∈H:=hx ▸ bJ gm
    have HEr:Qi (H.erase sl=H.eraseIdx k):=Ux gm hx HN.o
    have HW:Qi (doW ⟨M,l.map (·.1)⟩ x=⟨Ff M sl,(l.map (·.1)).set i ⟨!(Ak l[i].1.f 0).d,Ak l[i].1.f 0,H.eraseIdx k⟩⟩):=by
     show _=_
     rw[tu.o,af JA,HEr.o]
     rfl
    have sO:Qi _:=HC.o JA
    have HTB:Qi (TB g l gh):=.inr (.inl ⟨_,qP,_,haH,rfl⟩)
    have HCl:Qi (∀ j (h:j<H.length),W3.cell? ⟨gh,j,none⟩=some (O J H[j])):=ui
    have ET:H.length<=l[i].2.cH:=HR.o.le
    have vU:(l.eraseIdx k).length<=l.length:=qC ..
    have D15:Qi (W3.cell? ⟨g,i*16+15,none⟩=_):=JQ
    rw[hx] at BI
    clear KD hx ui tu HC wQ HN HEr vU JQ
    go_wp2_with fail
    refine Calls.mono sO.o ?_
    rintro e V ⟨rfl,hHs,hF⟩
    have zU:∀ q,TB g l q->q<W3.heap.size->V.heap[q]?=W3.heap[q]?:=fun q hq hz=>hF.block q hz (fun hf=>HP.o.wm.ap q hf hq)
    have WL:Qi (∀ j (h:j<H.length),V.cell? ⟨gh,j,none⟩=some (O J H[j])):=fun j hj=>(World.cell?_of_block (a:=⟨gh,j,none⟩) (zU gh HTB.o (cell_lt (HCl.o j hj)))).trans (HCl.o j hj)
    have D2:Qi (V.cell? ⟨g,i*16+15,none⟩=_):=(World.cell?_of_block (a:=⟨g,i*16+15,none⟩) (zU g (.inl rfl) vT.2)).trans D15.o
    have Z2:Qi (V.frozen? ⟨g,i*16+15,none⟩=false):=(World.frozen?_of_block (a:=⟨g,i*16+15,none⟩) (zU g (.inl rfl) vT.2)).trans (HP.o.wm.t.row.frozenAt _)
    have yB:Qi _:=hHs
    have HF:Qi _:=hF
    clear hHs hF zU sO HCl D15 d6
    go_wp2_with fail
    refine b4o rfl rfl rfl D2.o Z2.o WL.o gm CG ET fun y w2 aN cN dm jk=>?_
    simp only[mkA,dD,qF,qG,Act.put,qB,fV,qE]
    obtain⟨T4,H4,K4⟩:=b6p HP.o.wm hi yB.o HF.o dm jk (Nat.le_trans (qC ..) (by omega))
    have rX:Qi _:=T4
    have vJ:Qi _:=H4
    have uU:Qi _:=K4
    clear T4 H4 K4 dm jk yB HF D2 Z2 WL
    generalize w2.setCell ⟨g,i*16+15,none⟩ (Y aN (H.eraseIdx k).length cN)=W5 at *
    go_wp2
    obtain⟨T4,H4,K4⟩:=(⟨rX.o,vJ.o,uU.o⟩:_/\_/\_)
    clear rX vJ uU
    refine KO.o _ _ ?_
    clear KO
    have rQ:i<(l.set i (⟨l[i].1.b,l[i].1.f,(H.eraseIdx k)⟩,(⟨l[i].2.aK,l[i].2.cK,aN,cN⟩:TkV))).length:=by rw[dZ];exact hi
    have vU:(l.set i (⟨l[i].1.b,l[i].1.f,(H.eraseIdx k)⟩,(⟨l[i].2.aK,l[i].2.cK,aN,cN⟩:TkV)))[i]'rQ=(⟨l[i].1.b,l[i].1.f,(H.eraseIdx k)⟩,(⟨l[i].2.aK,l[i].2.cK,aN,cN⟩:TkV)):=mF ..
    have lF:Qi (W5.rangeAt g (i*16+1) (l[i].1.f.enc l[i].2.aK l[i].2.cK)):=by
     have:=T4.Rn rQ
     rw[vU] at this
     exact this
    have rX:Qi _:=T4
    have vJ:Qi _:=H4
    have uU:Qi _:=K4
    clear T4 H4 K4 vU rQ
    go_wp2_with (have h9:=lF.o;refine Xy rfl (.tmp 248) rfl rfl h9 ?_;clear h9 lF)
    refine(Xl l[i].1.f 0 l[i].2.aK l[i].2.cK _).mono ?_
    rintro e w9 ⟨rfl,qM⟩
    obtain⟨th,T5,H5,K5⟩:=a5w (F:=Ak l[i].1.f 0) HP.o.wm hi rX.o vJ.o uU.o qM rfl
    have Th:Qi (w9.there g (i*16+1) 14):=th
    clear th rX vJ uU qM
    go_wp2_with (have h9:=Th.o;refine Bl (f:=Ak l[i].1.f 0) rfl (.tmp 252) (.tmp 250) rfl rfl rfl h9 ?_;clear h9 Th)
    generalize w9.setCells g (i*16+1) (Fr.enc (Ak l[i].1.f 0) l[i].2.aK l[i].2.cK)=W6 at *
    refine vI.o _ _ ?_
    clear vI
    obtain⟨c13,cb,cf,cg,wR⟩:=U1 HP.o.wm hi T5 H5 K5
    obtain⟨c0,c1,c2,c3,c4,c5,r6,t6,o6,b6,hQ⟩:=Oe wR HP.o.bz HP.o.big HP.o.bel hE.o HW.o.symm
    have R6:Qi _:=r6
    have T6:Qi _:=t6
    have HQ:Qi _:=hQ
    obtain⟨z0,z1,z2,z3,z4,z5,zs⟩:=Bh b6
    clear r6 t6 hQ wR T5 H5 K5 HP hE HW
    go_wp2_with (first|(refine F8 rfl (.tmp 2) rfl rfl R6.o ?_;clear R6)|(refine Iu rfl (.tmp 4) (.tmp 262) rfl rfl rfl T6.o o6 ?_;clear T6))
    generalize (W6.setCell ⟨g,i*16,none⟩ (.bool (!(Ak l[i].1.f 0).d))).setCells (w.heap.size+1+1) 0 [c0,c1,c2,c3,c4,c5]=W7 at *
    refine gZ (v:=.tuple #[.agg #[c0,c1,c2,c3,c4,c5],O J 0]) (by simp[iH,results22,go_sem,z0,z1,z2,z3,z4,z5]) rfl HQ.o
   ·have HH:Qi (sl ∉ H.take (k+1)):=KD.o _ rfl hx
    have LP:(H[k] == sl)=false:=by simpa using hx
    clear KD hx ui
    generalize H[k]=y at *
    go_wp2
    go_round
    case rel=>exact⟨k+1,by omega,by go_num,HH⟩
    case measure=>simp[intOf];omega
  ·have hN:sl ∉ H:=by
    have:=HN.o
    rwa [show k=H.length by omega,jS] at this
   have HW:Qi (doW ⟨M,l.map (·.1)⟩ x=⟨M,(l.map (·.1)).set i ⟨!(Ak l[i].1.f 0).d,Ak l[i].1.f 0,H⟩⟩):=by
    show _=_
    rw[tu.o,ae hN,List.erase_of_not_mem hN]
    rfl
   have LY:¬ (k:Int)<(H.length:Int):=by omega
   have T4:Cf W3 dw g cT (l.set i (⟨l[i].1.b,l[i].1.f,H⟩,l[i].2)):=by
    rw[HHe.o]
    exact(set_self hi).symm ▸ HP.o.wm.t
   have H4:Has (Xw (some ⟨g,0,none⟩) n cT) W3 w.heap.size n0 (Up W3 (Ac w.heap.size aS aH aF aL)) M:=⟨aS,aH,aF,aL,cS,cH,cF,cL,HP.o.wm.m,fun _ h=>.inl h⟩
   have K4:Kept W3 W3 w.heap.size n0:=⟨rfl,rfl,rfl,aC _,fun _ _ _=>rfl⟩
   have rX:Qi _:=T4
   have vJ:Qi _:=H4
   have uU:Qi _:=K4
   clear hN HN tu T4 H4 K4
   go_wp2
   obtain⟨T4,H4,K4⟩:=(⟨rX.o,vJ.o,uU.o⟩:_/\_/\_)
   clear rX vJ uU d6 JQ
   refine KO.o _ _ ?_
   clear KO
   have rQ:i<(l.set i (⟨l[i].1.b,l[i].1.f,H⟩,l[i].2)).length:=by rw[dZ];exact hi
   have vU:(l.set i (⟨l[i].1.b,l[i].1.f,H⟩,l[i].2))[i]'rQ=(⟨l[i].1.b,l[i].1.f,H⟩,l[i].2):=mF ..
   have lF:Qi (W3.rangeAt g (i*16+1) (l[i].1.f.enc l[i].2.aK l[i].2.cK)):=by
    have:=T4.Rn rQ
    rw[vU] at this
    exact this
   have rX:Qi _:=T4
   have vJ:Qi _:=H4
   have uU:Qi _:=K4
   clear T4 H4 K4 vU rQ
   go_wp2_with (have h9:=lF.o;refine Xy rfl (.tmp 248) rfl rfl h9 ?_;clear h9 lF)
   refine(Xl l[i].1.f 0 l[i].2.aK l[i].2.cK _).mono ?_
   rintro e w9 ⟨rfl,qM⟩
   obtain⟨th,T5,H5,K5⟩:=a5w (F:=Ak l[i].1.f 0) HP.o.wm hi rX.o vJ.o uU.o qM rfl
   have Th:Qi (w9.there g (i*16+1) 14):=th
   clear th rX vJ uU qM
   go_wp2_with (have h9:=Th.o;refine Bl (f:=Ak l[i].1.f 0) rfl (.tmp 252) (.tmp 250) rfl rfl rfl h9 ?_;clear h9 Th)
   generalize w9.setCells g (i*16+1) (Fr.enc (Ak l[i].1.f 0) l[i].2.aK l[i].2.cK)=W6 at *
   refine vI.o _ _ ?_
   clear vI
   obtain⟨c13,cb,cf,cg,wR⟩:=U1 HP.o.wm hi T5 H5 K5
   obtain⟨c0,c1,c2,c3,c4,c5,r6,t6,o6,b6,hQ⟩:=Oe wR HP.o.bz HP.o.big HP.o.bel hE.o HW.o.symm
   have R6:Qi _:=r6
   have T6:Qi _:=t6
   have HQ:Qi _:=hQ
   obtain⟨z0,z1,z2,z3,z4,z5,zs⟩:=Bh b6
   clear r6 t6 hQ wR T5 H5 K5 HP hE HW
   go_wp2_with (first|(refine F8 rfl (.tmp 2) rfl rfl R6.o ?_;clear R6)|(refine Iu rfl (.tmp 4) (.tmp 262) rfl rfl rfl T6.o o6 ?_;clear T6))
   generalize (W6.setCell ⟨g,i*16,none⟩ (.bool (!(Ak l[i].1.f 0).d))).setCells (w.heap.size+1+1) 0 [c0,c1,c2,c3,c4,c5]=W7 at *
   refine gZ (v:=.tuple #[.agg #[c0,c1,c2,c3,c4,c5],O J 0]) (by simp[iH,results22,go_sem,z0,z1,z2,z3,z4,z5]) rfl HQ.o
end
end
section
section
variable {w W3:Wq} {n0 dw:Nat} {aS aH aF aL:Option Addr} {cS cH cF cL g cT n:Nat} {M:Mm} {l:List (Tk × TkV)} {x:Pk} {B lo:Nat}
theorem b4d(h:PkH w W3 n0 dw aS aH aF aL cS cH cF cL g cT n M l x)(ht:x.tick=false)(hx:x.s=i)(hi:i<l.length)(hs:x.step=true)(hb:l[i].1.b=true)(hf:Fit M l[i].1.f)(hk:l[i].1.f.c.k=1)(CG:l[i].1.u.length<=100)(hE:Qi (doE ⟨M,l.map (·.1)⟩ x=0))(hW:Qi (doW ⟨M,l.map (·.1)⟩ x=⟨(stepT M i l[i].1).1,(l.map (·.1)).set i (stepT M i l[i].1).2⟩))(v0 v1 v11 v12:dU) :
  Code.wp Pg (I8 (I8 (I8 (Tryz.f22.body.getD .skip)))) (bodyPost Pg Tryz.f22 (Ku w ⟨M,l.map (·.1)⟩ x)) (Om w.heap.size v0 v1 v11 v12) W3:=by
 have qP:=bJ hi
 obtain⟨G,hG⟩:∃ G,G=lkF M l[i].1.f:=⟨_,rfl⟩
 obtain⟨N,hN⟩:∃ N,N=lkM M l[i].1.f:=⟨_,rfl⟩
 have HC:Qi (Calls Pg 69 #[Ae w.heap.size,Ai (l[i].1.f) (l[i].2.aK) (l[i].2.cK)] W3 fun e w'=>∃ a c,e=.returned (.agg #[O J G.c.k,O J G.c.a,O J G.c.b,O J G.c.t,O J G.c.q,O J G.c.h,O J G.l,O J G.u,O J G.p,O J G.h,O J G.n,Y a G.t.length c,.bool G.d,O J G.e])/\a9b W3 n0 w.heap.size aS aH aF aL g n cT l[i].2.aK G N a c w'):=by
  refine(a4d M _ w.heap.size n0 aS aH aF aL cS cH cF cL _ _ W3 h.wm.m h.ok hf (h.wm.t.t _ qP) (fun ad e h'=>h.wm.ap _ h' (.inr (.inr ⟨_,qP,ad,e,rfl⟩)))).mono ?_
  rintro e w' ⟨⟨a,c,h1,h2,h3,-⟩,h4,h5⟩
  rw[<- hG,<- hN] at *
  exact⟨a,c,h1,Zy (dK _ _) h2 h3 h4 h5⟩
 have tu:Qi (doW ⟨M,l.map (·.1)⟩ x=⟨N,(l.map (·.1)).set i ⟨!G.d,G,if G.d && G.e==0 then l[i].1.u ++ [G.h] else l[i].1.u⟩⟩):=by
  show _=_
  rw[hW.o]
  unfold stepT
  rw[af hk,hG,hN]
  rfl
 obtain⟨x0,x1,x2,x3,x4,x5,x6,x7,x8,xs⟩:=Ql h.bx
 obtain⟨q0,q1,q2,q3,q4,q5,qs⟩:=Bh h.wm.m.box
 have d0:=(h.wm.t.b hi).1
 have d1:W3.cell? ⟨g,i*16+1,none⟩=some (O J l[i].1.f.c.k):=h.wm.t.cell (q:=1) hi (by decide)
 have lF:Qi (W3.rangeAt g (i*16+1) (l[i].1.f.enc l[i].2.aK l[i].2.cK)):=h.wm.t.Rn hi
 have HP:Qi (PkH w W3 n0 dw aS aH aF aL cS cH cF cL g cT n M l x):=h
 rw[hb] at d0
 rw[hk] at d1
 rw[ht] at x2
 rw[hs] at x1
 rw[hx] at x0
 have hn:(i:Int)<(n:Int):=by have:=h.wm.len;omega
 have yE:n<=5:=by rw[<- h.wm.len];exact h.wm.t.few
 clear hG hN hW h ht hs hx hb hf hk
 unfold Om
 conv=>arg 2;whnf
 go_wp2_with (have h9:=lF.o;refine Xy rfl (.tmp 144) rfl rfl h9 ?_;clear h9 lF)
 refine HC.o.mono ?_
 rintro e V ⟨a,c,rfl,hp⟩
 obtain⟨th,T4,H4,F4⟩:=a3w HP.o.wm hi hp
 have K4:=HP.o.wm.kept F4
 have rQ:i<(l.set i (⟨l[i].1.b,G,l[i].1.u⟩,⟨a,c,l[i].2.aH,l[i].2.cH⟩)).length:=by rw[dZ];exact hi
 have vU:(l.set i (⟨l[i].1.b,G,l[i].1.u⟩,⟨a,c,l[i].2.aH,l[i].2.cH⟩))[i]'rQ=(⟨l[i].1.b,G,l[i].1.u⟩,⟨a,c,l[i].2.aH,l[i].2.cH⟩):=mF ..
 have c13:(V.setCells g (i*16+1) (G.enc a c)).cell? ⟨g,i*16+13,none⟩=some (.bool G.d):=by rw[T4.cell (q:=13) rQ (by decide),vU];rfl
 have c14:(V.setCells g (i*16+1) (G.enc a c)).cell? ⟨g,i*16+14,none⟩=some (O J G.e):=by rw[T4.cell (q:=14) rQ (by decide),vU];rfl
 have c10:(V.setCells g (i*16+1) (G.enc a c)).cell? ⟨g,i*16+10,none⟩=some (O J G.h):=by rw[T4.cell (q:=10) rQ (by decide),vU];rfl
 have c15:(V.setCells g (i*16+1) (G.enc a c)).cell? ⟨g,i*16+15,none⟩=some (Y l[i].2.aH l[i].1.u.length l[i].2.cH):=by rw[T4.cell (q:=15) rQ (by decide),vU];rfl
 have BM:(V.setCells g (i*16+1) (G.enc a c)).frozen? ⟨g,i*16+15,none⟩=false:=T4.row.frozenAt _
 have own:=T4.u _ (bJ rQ)
 have iw:∀ ad,l[i].2.aH=some ad->ad.block≠g:=fun ad e=>HP.o.wm.t.hg qP e
 have glo:=T4.glo
 rw[vU] at own
 have Th:Qi (V.there g (i*16+1) 14):=th
 clear th vU rQ hp HC x0 x1 x2 x3 x4 x5 x6 x7 x8 q0 q1 q2 q3 q4 q5 d0 d1
 rename_i K2 VL K1 JM K0 qO
 have vI:Qi _:=VL
 clear VL
 by_cases JH:(G.d && G.e==0)=true
 ·have h1:G.d=true:=by simp at JH;exact JH.1
  have h2:(G.e==0)=true:=by simp at JH;simp;exact JH.2
  rw[af JH] at tu
  have HD:Qi (G.d=true):=h1
  have AP:Qi _:=c10
  have C15:Qi _:=c15
  have F15:Qi _:=BM
  have Own:Qi _:=own
  have rX:Qi _:=T4
  have vJ:Qi _:=H4
  have DU:Qi _:=F4
  rw[h1] at c13
  clear h1 JH T4 H4 F4 c10 c15 BM own K4
  go_wp2_with (have h9:=Th.o;refine Bl (f:=G) rfl (.tmp 148) (.tmp 146) rfl rfl rfl h9 ?_;clear h9 Th;generalize V.setCells g (i*16+1) (G.enc a c)=W4 at *)
  refine b4m rfl rfl C15.o F15.o AP.o Own.o iw CG (by omega) fun y V2 ob w2 g2 eu dm QG jk lg LY=>?_
  obtain⟨T4,H4,K4⟩:=b6o HP.o.wm hi (rX.o.below dm) (Has.below vJ.o dm) (DU.o.below dm) jk lg LY CG
  simp only[mkA,dA,qF,qG,Act.put,qB,fV,qE]
  generalize w2.setCell ⟨g,i*16+15,none⟩ (Y (some ⟨g2,0,none⟩) (l[i].1.u.length+1) eu)=W5 at *
  clear rX vJ DU jk lg LY AP C15 F15 Own c13 c14
  refine vI.o _ _ ?_
  clear vI
  obtain⟨c13,cb,cf,cg,wR⟩:=U1 HP.o.wm hi T4 H4 K4
  obtain⟨c0,c1,c2,c3,c4,c5,r6,t6,o6,b6,hQ⟩:=Oe wR HP.o.bz HP.o.big HP.o.bel hE.o tu.o.symm
  have R6:Qi _:=r6
  have T6:Qi _:=t6
  have HQ:Qi _:=hQ
  obtain⟨z0,z1,z2,z3,z4,z5,zs⟩:=Bh b6
  clear r6 t6 hQ wR K4 T4 H4 HP hE tu
  go_wp2_with (first|(refine F8 rfl (.tmp 2) rfl rfl R6.o ?_;clear R6)|(refine Iu rfl (.tmp 4) (.tmp 262) rfl rfl rfl T6.o o6 ?_;clear T6))
  generalize (W5.setCell ⟨g,i*16,none⟩ (.bool (!G.d))).setCells (w.heap.size+1+1) 0 [c0,c1,c2,c3,c4,c5]=W6 at *
  refine gZ (v:=.tuple #[.agg #[c0,c1,c2,c3,c4,c5],O J 0]) (by simp[iH,results22,go_sem,z0,z1,z2,z3,z4,z5]) rfl HQ.o
 ·rw[ae JH] at tu
  have rX:Qi _:=T4
  have vJ:Qi _:=H4
  have uU:Qi _:=K4
  clear T4 H4 F4 c10 c15 BM own K4
  have hde':G.d=false\/(G.d=true/\(G.e==0)=false):=by
   cases hd:G.d with
   | false=>exact .inl rfl
   | true=>exact .inr ⟨rfl,by simpa [hd] using JH⟩
  clear JH
  rcases hde' with hd|⟨hd,h2⟩
  all_goals
   rw[hd] at c13
   clear hd
   go_wp2_with (have h9:=Th.o;refine Bl (f:=G) rfl (.tmp 148) (.tmp 146) rfl rfl rfl h9 ?_;clear h9 Th;generalize V.setCells g (i*16+1) (G.enc a c)=W5 at *)
   obtain⟨T4,H4,K4⟩:=(⟨rX.o,vJ.o,uU.o⟩:_/\_/\_)
   refine vI.o _ _ ?_
   clear vI rX vJ uU c13 c14
   obtain⟨c13,cb,cf,cg,wR⟩:=U1 HP.o.wm hi T4 H4 K4
   obtain⟨c0,c1,c2,c3,c4,c5,r6,t6,o6,b6,hQ⟩:=Oe wR HP.o.bz HP.o.big HP.o.bel hE.o tu.o.symm
   have R6:Qi _:=r6
   have T6:Qi _:=t6
   have HQ:Qi _:=hQ
   obtain⟨z0,z1,z2,z3,z4,z5,zs⟩:=Bh b6
   clear r6 t6 hQ wR K4 T4 H4 HP hE tu
   go_wp2_with (first|(refine F8 rfl (.tmp 2) rfl rfl R6.o ?_;clear R6)|(refine Iu rfl (.tmp 4) (.tmp 262) rfl rfl rfl T6.o o6 ?_;clear T6))
   generalize (W5.setCell ⟨g,i*16,none⟩ (.bool (!G.d))).setCells (w.heap.size+1+1) 0 [c0,c1,c2,c3,c4,c5]=W6 at *
   refine gZ (v:=.tuple #[.agg #[c0,c1,c2,c3,c4,c5],O J 0]) (by simp[iH,results22,go_sem,z0,z1,z2,z3,z4,z5]) rfl HQ.o
end
end
section
section
variable {w W3:Wq} {n0 dw:Nat} {aS aH aF aL:Option Addr} {cS cH cF cL g cT n:Nat} {M:Mm} {l:List (Tk × TkV)} {x:Pk} {B lo:Nat}
theorem pk_on(h:PkH w W3 n0 dw aS aH aF aL cS cH cF cL g cT n M l x)(ht:x.tick=true)(hn:M.w≠1000000)(v0 v1 v11 v12:dU) :
  Code.wp Pg (I8 (I8 (I8 (Tryz.f22.body.getD .skip)))) (bodyPost Pg Tryz.f22 (Ku w ⟨M,l.map (·.1)⟩ x)) (Om w.heap.size v0 v1 v11 v12) W3:=by
 have hE:doE ⟨M,l.map (·.1)⟩ x=0:=by unfold doE;rw[af ht,ae hn]
 have hW:doW ⟨M,l.map (·.1)⟩ x=⟨{ M with w:=M.w+1 },l.map (·.1)⟩:=by unfold doW;rw[af ht]
 obtain⟨x0,x1,x2,x3,x4,x5,x6,x7,x8,xs⟩:=Ql h.bx
 obtain⟨q0,q1,q2,q3,q4,f0,f1,f2,f3,f4,qs⟩:=Aj h.wm.m.box
 rw[ht] at x2
 have h0:=h.ok.w
 have hb:=h.wm
 have wR:WP n0 w.heap.size ⟨{ M with w:=M.w+1 },l.map (·.1)⟩ W3 (W3.setCell ⟨w.heap.size,4,none⟩ (O J (M.w+1))) :=
  Vd (Z:=fun _=>True) ⟨aS,aH,aF,aL,cS,cH,cF,cL,hb.m.b2c (M.w+1),fun _ _=>trivial⟩ (hb.t.same fun k _ hk=>dM _ _ _ _ (by dsimp only;exact fun e=>hb.ap w.heap.size (.inl rfl) (e ▸ hk))) hb.len hb.hlo hb.hlo2 ((Kept.of_below (dK n0 W3) (aC _)).a0c _) rfl
 obtain⟨c0,c1,c2,c3,c4,c5,r6,t6,o6,b6,hQ⟩:=Oe wR h.bz h.big h.bel hE hW.symm
 have R6:Qi _:=r6
 have T6:Qi _:=t6
 have HQ:Qi _:=hQ
 obtain⟨z0,z1,z2,z3,z4,z5,zs⟩:=Bh b6
 have h':(M.w==1000000)=false:=by simpa using hn
 have hw:IntKind.i64.wrap (M.w+1)=M.w+1:=by rw[IntKind.wrap_i64];omega
 clear r6 t6 hQ wR hb h hE hW ht hn
 unfold Om
 conv=>arg 2;whnf
 go_wp2_with (first|(have h9:=R6.o;refine F8 rfl (.tmp 2) rfl rfl h9 ?_;clear h9 R6)|(have h9:=T6.o;refine Iu rfl (.tmp 4) (.tmp 29) rfl rfl rfl h9 o6 ?_;clear h9 T6))
 generalize (W3.setCell ⟨w.heap.size,4,none⟩ (O J (M.w+1))).setCells (w.heap.size+1+1) 0 [c0,c1,c2,c3,c4,c5]=W7 at *
 refine gZ (v:=.tuple #[.agg #[c0,c1,c2,c3,c4,c5],O J 0]) (by simp[iH,results22,go_sem,z0,z1,z2,z3,z4,z5]) rfl HQ.o
theorem b4e(h:PkH w W3 n0 dw aS aH aF aL cS cH cF cL g cT n M l x)(ht:x.tick=false)(hx:¬ (0<=x.s/\x.s<n))(hE:Qi (doE ⟨M,l.map (·.1)⟩ x=5))(v0 v1 v11 v12:dU) :
  Code.wp Pg (I8 (I8 (I8 (Tryz.f22.body.getD .skip)))) (bodyPost Pg Tryz.f22 (Ku w ⟨M,l.map (·.1)⟩ x)) (Om w.heap.size v0 v1 v11 v12) W3:=by
 obtain⟨x0,x1,x2,x3,x4,x5,x6,x7,x8,xs⟩:=Ql h.bx
 obtain⟨q0,q1,q2,q3,q4,q5,qs⟩:=Bh h.wm.m.box
 rw[ht] at x2
 have yE:n<=5:=by rw[<- h.wm.len];exact h.wm.t.few
 have HZ:Qi (W3.heap[w.heap.size+2]?=some (.cells #[Y none 0 0,Y none 0 0,Y none 0 0,Y none 0 0,O J 0,Y none 0 0] 28 (0,0))):=h.bz
 have Hb:Qi (Below w.heap.size w W3):=h.bel
 obtain⟨tk,QF⟩:∃ tk,tk=x.s:=⟨_,rfl⟩
 rw[<- QF] at x0 hx
 clear h ht QF
 have NR:tk<0\/(¬ tk<0/\tk ≥ (n:Int)):=by omega
 clear hx
 unfold Om
 conv=>arg 2;whnf
 rcases NR with h1|⟨h1,h2⟩
 all_goals
  go_wp2_with fail
  refine(Sz 5 _).mono ?_
  rintro e V ⟨rfl,hb⟩
  obtain⟨t6,r6,HR⟩:=Vw HZ.o Hb.o hE.o (by decide) hb
  clear hE Hb HZ hb x0 x1 x2 x3 x4 x5 x6 x7 x8 q0 q1 q2 q3 q4 q5
  go_wp2_with (refine Iu rfl (.tmp 4) (.tmp 43) rfl rfl rfl t6.o (by kernel_rfl) ?_;clear t6)
  generalize V.setCells (w.heap.size+1+1) 0 _=V2 at *
  obtain⟨r0,r1,r2,r3,r4,r5,rs⟩:=Bh r6.o
  refine gZ (v:=.tuple #[.agg #[Y none 0 0,Y none 0 0,Y none 0 0,Y none 0 0,O J 0,Y none 0 0],O J 5]) (by simp[iH,results22,go_sem,r0,r1,r2,r3,r4,r5]) rfl HR.o
theorem b4c(h:PkH w W3 n0 dw aS aH aF aL cS cH cF cL g cT n M l x)(ht:x.tick=false)(hx:x.s=i)(hi:i<l.length)(hs:x.step=true)(hb:l[i].1.b=false)(hE:Qi (doE ⟨M,l.map (·.1)⟩ x=8))(v0 v1 v11 v12:dU) :
  Code.wp Pg (I8 (I8 (I8 (Tryz.f22.body.getD .skip)))) (bodyPost Pg Tryz.f22 (Ku w ⟨M,l.map (·.1)⟩ x)) (Om w.heap.size v0 v1 v11 v12) W3:=by
 obtain⟨x0,x1,x2,x3,x4,x5,x6,x7,x8,xs⟩:=Ql h.bx
 obtain⟨q0,q1,q2,q3,q4,q5,qs⟩:=Bh h.wm.m.box
 have d0:=(h.wm.t.b hi).1
 rw[hb] at d0
 rw[ht] at x2
 rw[hs] at x1
 rw[hx] at x0
 have hn:(i:Int)<(n:Int):=by have:=h.wm.len;omega
 have yE:n<=5:=by rw[<- h.wm.len];exact h.wm.t.few
 have HZ:Qi (W3.heap[w.heap.size+2]?=some (.cells #[Y none 0 0,Y none 0 0,Y none 0 0,Y none 0 0,O J 0,Y none 0 0] 28 (0,0))):=h.bz
 have Hb:Qi (Below w.heap.size w W3):=h.bel
 clear h ht hs hx hb
 unfold Om
 conv=>arg 2;whnf
 go_wp2_with fail
 refine(Sz 8 _).mono ?_
 rintro e V ⟨rfl,hb⟩
 obtain⟨t6,r6,HR⟩:=Vw HZ.o Hb.o hE.o (by decide) hb
 clear hE Hb HZ hb x0 x1 x2 x3 x4 x5 x6 x7 x8 q0 q1 q2 q3 q4 q5 d0
 go_wp2_with (refine Iu rfl (.tmp 4) (.tmp 119) rfl rfl rfl t6.o (by kernel_rfl) ?_;clear t6)
 generalize V.setCells (w.heap.size+1+1) 0 _=V2 at *
 obtain⟨r0,r1,r2,r3,r4,r5,rs⟩:=Bh r6.o
 refine gZ (v:=.tuple #[.agg #[Y none 0 0,Y none 0 0,Y none 0 0,Y none 0 0,O J 0,Y none 0 0],O J 8]) (by simp[iH,results22,go_sem,r0,r1,r2,r3,r4,r5]) rfl HR.o
end
theorem a3v{W:Wd}(x:Pk)(aS aH aF aL:Option Addr)(cS cH cF cL:Nat)(aT:Option Addr)(cT:Nat)(w:Wq)(hv:Di 0 w (.agg #[Y aS W.m.s.length cS,Y aH W.m.h.length cH,Y aF W.m.f.length cF,Y aL W.m.l.length cL,O J W.m.w,Y aT W.t.length cT]) W)(hW:wE W=0):Calls Pg 22 #[Ew aS aH aF aL cS cH cF cL aT cT W,Qn x] w (Ku w W x):=by
 unfold Ew Qn
 refine Zz x aS aH aF aL cS cH cF cL aT cT w hv hW ?_
 clear hv hW
 intro W3 n0 dw aS aH aF aL cS cH cF cL g cT n M l NP hM hw bx bz big bel C hC v0 v1 v11 v12
 subst hC
 have h:PkH w W3 n0 dw aS aH aF aL cS cH cF cL g cT n M l x:=⟨NP,hM,hw,bx,bz,big,bel⟩
 obtain⟨-,-,-,QF⟩:=Ko.1 hw
 by_cases ht:x.tick=true
 ·by_cases hn:M.w=1000000
  ·exact b4b h ht hn v0 v1 v11 v12
  ·exact pk_on h ht hn v0 v1 v11 v12
 have vZ:x.tick=false:=by simpa using ht
 have jb:((Wd.mk M (l.map (·.1))).t.length:Nat)=n:=by
  show (l.map (·.1)).length=n
  rw[List.length_map,NP.len]
 by_cases hx:0<=x.s/\x.s<n
 rotate_left
 ·refine b4e h vZ hx ?_ v0 v1 v11 v12
  show doE _ _=5
  unfold doE
  rw[ae ht,af (by rw[jb];exact hx)]
 obtain⟨i,hi⟩:∃ i:Nat,x.s=i:=⟨x.s.toNat,(Int.toNat_of_nonneg hx.1).symm⟩
 have rQ:i<l.length:=by rw[NP.len];omega
 have vw:0<=x.s/\x.s<((Wd.mk M (l.map (·.1))).t.length:Nat):=by rw[jb];exact hx
 have IR:Gt ⟨M,l.map (·.1)⟩ x=l[i].1:=by
  have:=b2m l x (by rw[hi];exact rQ) M
  simpa [hi] using this
 have TT:x.s.toNat=i:=by rw[hi];rfl
 obtain⟨h5,hsl,hf⟩:=Po.1 (QF l[i].1 (List.mem_map.2 ⟨l[i],bJ rQ,rfl⟩))
 by_cases hs:x.step=true
 ·have e1:doE ⟨M,l.map (·.1)⟩ x=if l[i].1.b then 0 else 8:=by unfold doE;rw[ae ht,ae (fun hh=>hh vw),af hs,IR]
  have e2:doW ⟨M,l.map (·.1)⟩ x=⟨(stepT M i l[i].1).1,(l.map (·.1)).set i (stepT M i l[i].1).2⟩:=by unfold doW;rw[ae ht,af hs,IR,TT]
  cases hb:l[i].1.b with
  | false=>exact b4c h vZ hi rQ hs hb (by show doE _ _=8;rw[e1,hb];rfl) v0 v1 v11 v12
  | true =>
   have UT:=a5k.1 (hf hb)
   have hE:Qi (doE ⟨M,l.map (·.1)⟩ x=0):=by show doE _ _=0;rw[e1,hb];rfl
   have hk:=Ye UT.call
   by_cases h1:l[i].1.f.c.k=1
   ·exact b4d h vZ hi rQ hs hb UT h1 h5 hE e2 v0 v1 v11 v12
   by_cases h6:l[i].1.f.c.k=6
   ·exact b1a h vZ hi rQ hs hb h6 h5 hsl hE e2 v0 v1 v11 v12
   have EJ:l[i].1.f.c.k=2\/l[i].1.f.c.k=3\/l[i].1.f.c.k=4\/l[i].1.f.c.k=5:=by omega
   rcases EJ with h2|h2|h2
   ·exact Xn h vZ hi rQ hs hb UT (.inl ⟨h2,rfl⟩) hE e2 v0 v1 v11 v12
   ·exact Xn h vZ hi rQ hs hb UT (.inr (.inl ⟨h2,rfl⟩)) hE e2 v0 v1 v11 v12
   ·exact Xn h vZ hi rQ hs hb UT (.inr (.inr ⟨h2,rfl⟩)) hE e2 v0 v1 v11 v12
 ·have zQ:x.step=false:=by simpa using hs
  refine b0y h vZ hi rQ zQ h5 rfl ?_ ?_ v0 v1 v11 v12
  ·show doE _ _=_
   unfold doE
   rw[ae ht,ae (fun hh=>hh vw),ae hs]
   unfold Zl a0l
   rw[IR]
   have q1:((x.c.k=1/\l[i].1.u.length=100) ↔ (x.c.k=1/\100<=l[i].1.u.length)):=⟨fun ⟨a,b⟩=>⟨a,by omega⟩,fun ⟨a,b⟩=>⟨a,by omega⟩⟩
   have q2:((x.c.k=6/\x.c.h ∉ l[i].1.u) ↔ (x.c.k=6/\hasB l[i].1.u x.c.h=false)):=by rw[Xa]
   simp only[q1,q2]
  ·show doW _ _=_
   unfold doW;rw[ae ht,ae hs,IR,TT]
end
end Go.Proofs.YthhgoenomehobaaGreat.mm
