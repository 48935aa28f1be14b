/- Parts. -/
import Derived.Test.YthhgoenomehobaaGreatP34
import Derived.Test.YthhgoenomehobaaGreatP18
namespace Go.Proofs.YthhgoenomehobaaGreat.mm
open World renaming drew → oU
open Act renaming eval → oQ
open Nat renaming le_refl → aC
open Joins renaming cell_of_block → dN, below_alloc2 → oO
open RowKit.Below renaming refl → dK, heap_alloc → fU, heap_setCell → dM
open Go renaming cell_regrown → fO, heap_alloc_new → fP, undef → Uz, World → Wq
open Tryz
set_option maxRecDepth 100000
set_option linter.unusedVariables false
open Value renaming int → O, slice → Y
open IntKind renaming i64 → J
open Tryz renaming prog → Pg
open ChangeShapes WideShapes ChangeAt RowKit Joins Deep Go.Sort
set_option maxHeartbeats 0
section
variable {Xb:Ex}
theorem J4{bn:Array Oper}{o:Oper}{a:Act}{w:Wq}{K:Act->Wq->Prop}{Q:Exit->Act->Wq->Prop}{E:Prop}(rY:o.guard=none)(s x:Operand)
  (ho:o.op=.call { callee:=.builtin .append,args:=#[s,x],argTypes:=#[45,45] })
  (base:Nat) (v:Value) (n:Nat) (xs:List Value) (hs:a.eval s=v) (jv:w.ownsRow base 30 2 v n xs)
  (ao:Option Addr) (bg:Nat) (l:List (Int × Int)) (hx:a.eval x=Y ao l.length bg) (qp:Az w ao bg l) (RF:n+l.length<=1000) (vW:base<=w.heap.size)
  (h:∀ v' w',w'.ownsRow base 30 2 v' (n+l.length) (xs++G7 l)->w.grownBy w' v.ownBlock->(v'.ownBlock=v.ownBlock\/v'.ownBlock=some w.heap.size)->K (a.put o.dst v') w') :
  if Region.wanted o (yielded bn a.tmps)=true then Oper.wp Pg o a w K Q else E:=by
 obtain⟨i0,hi,ng,qj,pq⟩:=info_parts iK
 have hw:Region.wanted o (yielded bn a.tmps)=true:=by simp[Region.wanted,rY]
 rw[af hw]
 have yf:∃ v' w',(Builtin.append_ #[45,45] o.type #[v,Y ao l.length bg]).run Pg w=.ok v' w'/\w'.ownsRow base 30 2 v' (n+l.length) (xs++G7 l)/\w.grownBy w' v.ownBlock/\(v'.ownBlock=v.ownBlock\/v'.ownBlock=some w.heap.size):=by
  cases ao with
  | none =>
   have hc:=qp.nil rfl
   have hl:=qp.le
   have hl0:l.length=0:=by omega
   have hn:=List.eq_nil_of_length_eq_zero hl0
   subst hn hc
   exact⟨v,w,run_append_owned_none w base 45 o.type 30 i0 2 underlying45 hi v n xs jv,by simpa [G7] using jv,⟨rfl,rfl,rfl,aC _,fun _ _ _=>rfl⟩,.inl rfl⟩
  | some ad =>
   obtain⟨v',w',hr,h2,h3,-,h5⟩:=run_append_own_at (P:=Pg) w base 45 o.type 30 i0 (.agg #[O J 0,O J 0]) 2 16 underlying45 hi ng qj pq rfl (by first|decide|exact Ex.ne _ _ (by decide)) v n xs jv ad l.length bg (G7 l) (by rw[Nc]) (qp.src ad rfl) (X3 l) (by unfold maxLen;omega) (by omega) vW
   exact⟨v',w',hr,h2,h3,h5⟩
 obtain⟨v',w',hr,h2,h3,h5⟩:=yf
 unfold Oper.wp execOp
 simp only[ho,resolve,invoke,builtin,Sem.run_bind,Sem.run_pure,Result.andThen_ok,List.map_toArray,List.map_cons,List.map_nil,hs,hx,hr]
 exact h v' w' h2 h3 h5
theorem Lk.t{w w1:Wq}{B lo:Nat}{aS aH aF aL:Option Addr}{cS cH cF cL:Nat}{M:Mm}{f:Fr}{aK:Option Addr}{cK:Nat}(h:Lk Xb w w1 B lo aS aH aF aL cS cH cF cL M f aK cK)(l:List (Int × Int))(n:Nat)(hn:l.length=n)(a:Option Addr)(c:Nat) :
  Lk Xb w (w1.setCell ⟨w.heap.size,11,none⟩ (Y a n c)) B lo aS aH aF aL cS cH cF cL M { f with t:=l } a c:=by
 subst hn
 refine⟨h.bl.setCell (by simp) _,h.m.same (by simp) (fun k _ hk=>?_),h.lt,?_,by rw[dM _ _ _ _ (by dsimp only;omega)];exact h.zb⟩
 ·have:=h.lt k hk
  rw[dM _ _ _ _ (by dsimp only;omega)]
 ·rw[block_setCell h.fb];rfl
def b5f(x:Nat->Value):Act:=⟨#[x 0,x 1,x 2,x 3,x 4,x 5,x 6,x 7,x 8,x 9,x 10,x 11,x 12,x 13,x 14,x 15,x 16,x 17,x 18,x 19,x 20,x 21,x 22,x 23,x 24,x 25,x 26,x 27,x 28,x 29,x 30,x 31,x 32,x 33,x 34,x 35,x 36,x 37,x 38,x 39,x 40,x 41,x 42,x 43,x 44,x 45,x 46,x 47,x 48,x 49,x 50,x 51,x 52,x 53,x 54,x 55,x 56,x 57,x 58,x 59,x 60,x 61,x 62,x 63,x 64,x 65,x 66,x 67,x 68,x 69,x 70,x 71,x 72,x 73,x 74,x 75,x 76,x 77,x 78,x 79,x 80,x 81,x 82,x 83,x 84,x 85,x 86,x 87,x 88,x 89,x 90,x 91,x 92,x 93,x 94,x 95,x 96,x 97,x 98,x 99,x 100,x 101,x 102,x 103,x 104,x 105,x 106,x 107,x 108,x 109,x 110,x 111,x 112,x 113,x 114,x 115,x 116,x 117,x 118,x 119,x 120,x 121,x 122,x 123,x 124,x 125,x 126,x 127,x 128,x 129,x 130,x 131,x 132,x 133,x 134,x 135,x 136,x 137,x 138,x 139,x 140,x 141,x 142,x 143,x 144,x 145,x 146,x 147,x 148,x 149,x 150,x 151,x 152,x 153,x 154,x 155,x 156,x 157,x 158,x 159,x 160,x 161,x 162,x 163,x 164,x 165,x 166,x 167,x 168,x 169,x 170,x 171,x 172,x 173,x 174,x 175,x 176,x 177,x 178,x 179,x 180,x 181,x 182,x 183,x 184,x 185,x 186,x 187,x 188,x 189],[]⟩
theorem a5s{W W':Wq}{x y:Value}{t:TypeId}{A:Nat}(h:W.heap[A]?=some (.cells #[x,y] t (0,0))):∀ j u,[x,y][j]?=some u->W.cell? ((⟨A,0,none⟩:Addr).add j)=some u:=by
 intro j u hu
 rw[Addr.add_lit,dN h]
 simpa using hu
theorem Zr{W:Wq}{base A:Nat}(h:W.heap[A]?=some (.cells #[] 30 (0,0)))(hb:base<=A):W.ownsRow base 30 2 (Y (some ⟨A,0,none⟩) 0 0) 0 [] :=
 ⟨rfl,.inr ⟨A,0,#[],rfl,hb,h,aC _,Nat.zero_le _,rfl,rfl⟩⟩
theorem b1u(t:Int)(M:Mm)(c:Cl)(jh jg nn ee:Int)(gz:List (Int × Int))(B lo:Nat)(aS aH aF aL:Option Addr)(cS cH cF cL:Nat)(aK:Option Addr)(cK:Nat)(w:Wq)(b:Nat)
  (m:Mine Xb w B lo aS aH aF aL cS cH cF cL M) (HR:Qi (Az w aK cK gz)) (HZ:Qi (∀ ad,aK=some ad->¬ Ac B aS aH aF aL ad.block)) (j:Nat) (s:Sl) (ig:M.s.length<=12) (hj:j<M.s.length) (hs:s=Aa M j) (BA:(c.k==5)=true) (ut:gz.length<100) (kk:List (Int × Int)) (UL:kk=gz ++ [(s.a,s.b)])
  (ve:Qi (∀ W:Wq,Calls Pg 113 #[Cm aS aH aF aL cS cH cF cL M,Gj c] W fun e w'=>e=.returned (O J (b:Int))/\Below W.heap.size W w')) :
  Calls Pg 74 #[Ae B,.agg #[O J c.k,O J c.a,O J c.b,O J c.t,O J c.q,O J c.h,O J 2,O J ((j:Int)+1),O J jh,O J jg,O J nn,Y aK gz.length cK,.bool false,O J ee],O J t] w fun e w'=>a2s w w' e (toF ⟨c,2,(j:Int)+1,jh,jg,nn,kk,false,ee⟩ 3)/\Has Xb w' B lo (Up w (Ac B aS aH aF aL)) (M)/\Fine w w' (Ac B aS aH aF aL):=by
 unfold Ae
 have XQ:Qi (kk=gz ++ [(s.a,s.b)]/\gz.length<100):=⟨UL,ut⟩
 have hkl2:(gz.length:Int)<100:=by omega
 clear UL ut
 obtain⟨gS,rfl,oS,lS,kS,-⟩:=C9 m.c.s (by omega)
 have HX:Qi (∀ W,Mine Xb W B lo (some ⟨gS,0,none⟩) aH aF aL cS cH cF cL M->W.cell? ⟨gS,j*6,none⟩=some (O J s.refs)/\W.cell? ⟨gS,j*6+1,none⟩=some (O J s.a)/\W.cell? ⟨gS,j*6+2,none⟩=some (O J s.b) /\
  W.cell? ⟨gS,j*6+3,none⟩=some (O J s.unt)/\W.cell? ⟨gS,j*6+4,none⟩=some (.bool s.inn)/\W.cell? ⟨gS,j*6+5,none⟩=some (O J s.next)/\∀ q,W.frozen? ⟨gS,q,none⟩=false):=fun W m'=>D7 m'.c.s hj hs
 clear hs
 have yY:IntKind.i64.wrap ((j:Int)+1 - 1)=(j:Int):=by rw[IntKind.wrap_i64];omega
 have BZ:wrap64 ((j:Int)+1 - 1)=(j:Int):=by unfold wrap64;omega
 have zO:(j:Int)+1 - 1=(j:Int):=by omega
 have HI:Qi (∀ W:Wq,Calls Pg 115 #[O J ((j:Int)+1)] W fun e w'=>e=.returned (.bool true)/\W=w'):=fun W=>b0d _ W (by rw[decide_eq_true_iff];omega)
 obtain⟨of,df⟩:∃ o:Obj,o=.cells #[O J c.k,O J c.a,O J c.b,O J c.t,O J c.q,O J c.h,O J 2,O J ((j:Int)+1),O J jh,O J jg,O J nn,Y aK gz.length cK,.bool false,O J ee] 47:=⟨_,rfl⟩
 obtain⟨oz,bi⟩:∃ o:Obj,o=Ah:=⟨_,rfl⟩
 have HE:Qi (Lk Xb w ((w.alloc of).alloc oz) B lo (some ⟨gS,0,none⟩) aH aF aL cS cH cF cL M ⟨c,2,(j:Int)+1,jh,jg,nn,gz,false,ee⟩ aK cK):=Lk.first m ⟨c,2,(j:Int)+1,jh,jg,nn,gz,false,ee⟩ aK cK df bi
 obtain⟨f0,f1,f2,f3,f4,f5,f6,f7,f8,f9,ay,au,aj,ak,ff,fs⟩:=A8 (show ((w.alloc of).alloc oz).heap[w.heap.size]?=some (.cells #[O J c.k,O J c.a,O J c.b,O J c.t,O J c.q,O J c.h,O J 2,O J ((j:Int)+1),O J jh,O J jg,O J nn,Y aK gz.length cK,.bool false,O J ee] 47 (0,0)) from HE.o.fb)
 obtain⟨q0,q1,q2,q3,q4,-,-,-,-,-,qs⟩:=Aj HE.o.m.box
 unfold Ah at bi
 clear m
 go_enter func74,ntmps74
 go_wp2_with fail
 rw[<- df,<- bi]
 generalize (w.alloc of).alloc oz=W0 at *
 subst df bi
 have cB:∀ (d:Nat) (os:Array Obj),Calls Pg 113 #[Cm (some ⟨gS,0,none⟩) aH aF aL cS cH cF cL M,Gj c] (grow (redrawn W0 d) os) fun e uh=>e=.returned (O J (b:Int))/\∃ p:Regrown,uh=grow (redrawn W0 p.d) p.os:=fun d os=>Calls.regrown_of (ve.o _)
 have JW:=fO q0
 have JV:=fO q1
 have JU:=fO q2
 have JS:=fO q3
 have JR:=fO q4
 have VW:=fO f0
 have VV:=fO f1
 have VU:=fO f2
 have VT:=fO f3
 have VS:=fO f4
 have VR:=fO f5
 clear q0 q1 q2 q3 q4 qs
 clear f0 f1 f2 f3 f4 f5 f6 f7 f8 f9 ay au aj ak ff fs
 refine wp_region_quiet_below (by kernel_rfl) (by kernel_rfl) ?_
 repeat (quiet_step (first|exact cB _ _))
 refine wpQuiet_nil ?_
 intro _ rq
 obtain⟨⟨dq,rD⟩,ql⟩:=rq
 subst ql
 have gp:Qi (Lk Xb w (grow (redrawn W0 dq) rD) B lo (some ⟨gS,0,none⟩) aH aF aL cS cH cF cL M ⟨c,2,(j:Int)+1,jh,jg,nn,gz,false,ee⟩ aK cK):=HE.o.below (below_regrown W0 dq rD)
 generalize grow (redrawn W0 dq) rD=w1 at *
 clear JW JV JU JS JR VW VV VU VT VS VR HE
 clear cB ve
 obtain⟨f0,f1,f2,f3,f4,f5,f6,f7,f8,f9,ay,au,aj,ak,ff,fs⟩:=A8 (show w1.heap[w.heap.size]?=some (.cells #[O J c.k,O J c.a,O J c.b,O J c.t,O J c.q,O J c.h,O J 2,O J ((j:Int)+1),O J jh,O J jg,O J nn,Y aK gz.length cK,.bool false,O J ee] 47 (0,0)) from gp.o.fb)
 obtain⟨q0,q1,q2,q3,q4,-,-,-,-,-,qs⟩:=Aj gp.o.m.box
 obtain⟨x0,x1,x2,x3,x4,x5,xf⟩:=HX.o w1 gp.o.m
 have xs:gS<w1.heap.size:=cell_lt x0
 go_wp2_with (go_at_call 115;refine(HI.o _).mono ?_;rintro e w3 ⟨rfl,rfl⟩)
 go_region
 all_goals
  go_wp2_with fail
 have ai:Qi (Lk Xb w (w1.alloc (.cells #[O J s.refs,O J s.a,O J s.b,O J s.unt,.bool s.inn,O J s.next] 64)).drew B lo (some ⟨gS,0,none⟩) aH aF aL cS cH cF cL M ⟨c,2,(j:Int)+1,jh,jg,nn,gz,false,ee⟩ aK cK):=gp.o.below (A7 w1 (.cells #[O J s.refs,O J s.a,O J s.b,O J s.unt,.bool s.inn,O J s.next] 64)).drew
 have SB:(w1.alloc (.cells #[O J s.refs,O J s.a,O J s.b,O J s.unt,.bool s.inn,O J s.next] 64)).drew.heap[w1.heap.size]?=some (.cells #[O J s.refs,O J s.a,O J s.b,O J s.unt,.bool s.inn,O J s.next] 64):=fP w1 (.cells #[O J s.refs,O J s.a,O J s.b,O J s.unt,.bool s.inn,O J s.next] 64)
 have s1:(w1.alloc (.cells #[O J s.refs,O J s.a,O J s.b,O J s.unt,.bool s.inn,O J s.next] 64)).drew.cell? ⟨w1.heap.size,1,none⟩=some (O J s.a):=by rw[dN SB];rfl
 have s2:(w1.alloc (.cells #[O J s.refs,O J s.a,O J s.b,O J s.unt,.bool s.inn,O J s.next] 64)).drew.cell? ⟨w1.heap.size,2,none⟩=some (O J s.b):=by rw[dN SB];rfl
 clear gp x0 x1 x2 x3 x4 x5 xf xs SB
 clear q0 q1 q2 q3 q4 qs f0 f1 f2 f3 f4 f5 f6 f7 f8 f9 ay au aj ak ff fs
 generalize (w1.alloc (.cells #[O J s.refs,O J s.a,O J s.b,O J s.unt,.bool s.inn,O J s.next] 64)).drew=w2 at *
 generalize w1.heap.size=X at *
 have sl:=cell_lt s1
 have FO:Qi (∀ W:Wq,Below w2.heap.size w2 W->Az W aK cK gz):=fun W hb=>(HR.o.below ai.o.bl).below hb
 obtain⟨i0,hi,ng,qj,pq⟩:=info_parts iK
 have ut:=XQ.o.2
 obtain⟨f0,f1,f2,f3,f4,f5,f6,f7,f8,f9,ay,au,aj,ak,ff,fs⟩:=A8 (show w2.heap[w.heap.size]?=some (.cells #[O J c.k,O J c.a,O J c.b,O J c.t,O J c.q,O J c.h,O J 2,O J ((j:Int)+1),O J jh,O J jg,O J nn,Y aK gz.length cK,.bool false,O J ee] 47 (0,0)) from ai.o.fb)
 rename_i K0 qO
 have pg:Qi (∀ (a:Act) (W:Wq) (g bg:Nat),a=b5f (fun k=>a.tmps.getD k Uz)->a.tmps.getD 4 Uz=.pointer (some ⟨w.heap.size,0,none⟩)->a.tmps.getD 6 Uz=.pointer (some ⟨w.heap.size+1,0,none⟩)->a.tmps.getD 8 Uz=.func (.func 124) #[] #[.pointer (some ⟨w.heap.size,0,none⟩)]->Lk Xb w W B lo (some ⟨gS,0,none⟩) aH aF aL cS cH cF cL M ⟨c,2,(j:Int)+1,jh,jg,nn,kk,false,ee⟩ (some ⟨g,0,none⟩) bg->Ea W (w.heap.size+2) (some ⟨g,0,none⟩) bg kk->K0 a W):=by
  intro a w4 g bg ha h4 h6 h8 hE4 hK5
  obtain⟨x,hx⟩:∃ x:Nat->Value,x=fun k=>a.tmps.getD k Uz:=⟨_,rfl⟩
  have e4:x 4=.pointer (some ⟨w.heap.size,0,none⟩):=by rw[hx];exact h4
  have e6:x 6=.pointer (some ⟨w.heap.size+1,0,none⟩):=by rw[hx];exact h6
  have e8:x 8=.func (.func 124) #[] #[.pointer (some ⟨w.heap.size,0,none⟩)]:=by rw[hx];exact h8
  rw[<- hx] at ha
  rw[ha]
  have mf:Qi (Lk Xb w w4 B lo (some ⟨gS,0,none⟩) aH aF aL cS cH cF cL M ⟨c,2,(j:Int)+1,jh,jg,nn,kk,false,ee⟩ (some ⟨g,0,none⟩) bg):=hE4
  have SA:Qi (Ea w4 (w.heap.size+2) (some ⟨g,0,none⟩) bg kk):=hK5
  clear ha h4 h6 h8 hE4 hK5 hx ai f0 f1 f2 f3 f4 f5 f6 f7 f8 f9 ay au aj ak ff fs s1 s2 sl
  refine qO _ _ ?_
  clear qO
  unfold b5f
  rw[e4,e6,e8]
  clear e4 e6 e8
  go_wp2_with fail
  refine(b2k ⟨c,2,(j:Int)+1,jh,jg,nn,kk,false,ee⟩ 3 w.heap.size (some ⟨g,0,none⟩) bg _ mf.o.fb).mono ?_
  rintro e w9 ⟨rfl,hf9,hx9⟩
  have XR:Qi (Ea w9 (w.heap.size+2) (some ⟨g,0,none⟩) bg kk):=SA.o.fine hf9 (fun ad e=>by have:=(SA.o.lt ad e).1;omega)
  have qo:Qi (Lk2 Xb w w9 (Ac B (some ⟨gS,0,none⟩) aH aF aL) B lo M (toF ⟨c,2,(j:Int)+1,jh,jg,nn,kk,false,ee⟩ 3) (some ⟨g,0,none⟩) bg):=mf.o.two.toA hf9 hx9
  clear mf SA hf9 hx9
  obtain⟨g0,g1,g2,g3,g4,g5,g6,g7,g8,g9,qm,pz,qi,qw,gf,gs⟩:=A8 qo.o.zb
  go_wp2
  refine bodyPost_ret (v:=.agg #[O J (toF ⟨c,2,(j:Int)+1,jh,jg,nn,kk,false,ee⟩ 3).c.k,O J (toF ⟨c,2,(j:Int)+1,jh,jg,nn,kk,false,ee⟩ 3).c.a,O J (toF ⟨c,2,(j:Int)+1,jh,jg,nn,kk,false,ee⟩ 3).c.b,O J (toF ⟨c,2,(j:Int)+1,jh,jg,nn,kk,false,ee⟩ 3).c.t,O J (toF ⟨c,2,(j:Int)+1,jh,jg,nn,kk,false,ee⟩ 3).c.q,O J (toF ⟨c,2,(j:Int)+1,jh,jg,nn,kk,false,ee⟩ 3).c.h,O J (toF ⟨c,2,(j:Int)+1,jh,jg,nn,kk,false,ee⟩ 3).l,O J (toF ⟨c,2,(j:Int)+1,jh,jg,nn,kk,false,ee⟩ 3).u,O J (toF ⟨c,2,(j:Int)+1,jh,jg,nn,kk,false,ee⟩ 3).p,O J (toF ⟨c,2,(j:Int)+1,jh,jg,nn,kk,false,ee⟩ 3).h,O J (toF ⟨c,2,(j:Int)+1,jh,jg,nn,kk,false,ee⟩ 3).n,Y (some ⟨g,0,none⟩) (toF ⟨c,2,(j:Int)+1,jh,jg,nn,kk,false,ee⟩ 3).t.length bg,.bool (toF ⟨c,2,(j:Int)+1,jh,jg,nn,kk,false,ee⟩ 3).d,O J (toF ⟨c,2,(j:Int)+1,jh,jg,nn,kk,false,ee⟩ 3).e]) (by simp[results,results74,go_sem,toF,g0,g1,g2,g3,g4,g5,g6,g7,g8,g9,qm,pz,qi,qw]) rfl ⟨⟨some ⟨g,0,none⟩,bg,rfl,XR.o.Dl⟩,qo.o.Dl⟩
 have qg:=lt_of_block ai.o.zb
 have UW:Qi (∀ (u2:Wq) (g bg:Nat),Below w2.heap.size w2 u2->u2.ownsRow w2.heap.size 30 2 (Y (some ⟨g,0,none⟩) (gz.length+1) bg) (gz.length+1) (G7 gz ++ [O J s.a,O J s.b]) ->
   Lk Xb w (u2.setCell ⟨w.heap.size,11,none⟩ (Y (some ⟨g,0,none⟩) (gz.length+1) bg)) B lo (some ⟨gS,0,none⟩) aH aF aL cS cH cF cL M ⟨c,2,(j:Int)+1,jh,jg,nn,kk,false,ee⟩ (some ⟨g,0,none⟩) bg/\Ea (u2.setCell ⟨w.heap.size,11,none⟩ (Y (some ⟨g,0,none⟩) (gz.length+1) bg)) (w.heap.size+2) (some ⟨g,0,none⟩) bg kk):=by
  intro u2 g bg hb hO2
  have uU:Ea u2 (w.heap.size+2) (some ⟨g,0,none⟩) bg kk:=⟨by
   rw[XQ.o.1,show (gz ++ [(s.a,s.b)]).length=gz.length+1 by simp,show G7 (gz ++ [(s.a,s.b)])=G7 gz ++ [O J s.a,O J s.b] by simp[G7]]
   exact ownsRow_le hO2 (by omega)⟩
  exact⟨(ai.o.below hb).t kk (gz.length+1) (by rw[XQ.o.1];simp) (some ⟨g,0,none⟩) bg,uU.same (fun ad e=>by have:=(uU.lt ad e).1;rw[dM _ _ _ _ (by dsimp only;omega)])⟩
 go_region_law (first 
   | (refine J4 rfl (.tmp 76) (.tmp 78) rfl w2.heap.size (Y (some ⟨w2.heap.size,0,none⟩) 0 0) 0 [] (by simp[oQ]) (Zr (fP w2 (.cells #[] 30)) (aC _)) aK cK gz (by simp[oQ]) (FO.o _ (by exact(A7 w2 (.cells #[] 30)).drew)) (by omega) (by simp[oU] <;> omega) ?_;intro v1 u1 ou mi yu;have BQ:Qi (∀ W:Wq,Below u1.heap.size u1 W->W.ownsRow w2.heap.size 30 2 v1 gz.length (G7 gz)):=(fun W hb=>Cb (by simpa using ou) (fun g hg=>hb.block g (ou.lt g hg).2));have iy:Qi (Below w2.heap.size w2 u1):=((A7 w2 (.cells #[] 30)).drew).grown mi (by simp[oU] <;> omega) (fun k h=>by cases h;simp <;> omega);have TC:u1.cell? ⟨X,1,none⟩=some (O J s.a):=((Ce iy.o).1 _ _ sl).trans s1;have s2u:u1.cell? ⟨X,2,none⟩=some (O J s.b):=((Ce iy.o).1 _ _ sl).trans s2;have slu:=cell_lt TC;clear ou mi yu)
   | (refine J4 rfl (.tmp 76) (.tmp 78) rfl w2.heap.size (Y (some ⟨w2.heap.size,0,none⟩) 0 0) 0 [] (by simp[oQ]) (Zr ((fU (w2.alloc (.cells #[] 30)) (.cells #[O J s.a,O J s.b] 30) w2.heap.size (by simp)).trans (fP w2 (.cells #[] 30))) (aC _)) aK cK gz (by simp[oQ]) (FO.o _ (by exact(oO w2 (.cells #[] 30) (.cells #[O J s.a,O J s.b] 30)).drew)) (by omega) (by simp[oU] <;> omega) ?_;intro v1 u1 ou mi yu;have BQ:Qi (∀ W:Wq,Below u1.heap.size u1 W->W.ownsRow w2.heap.size 30 2 v1 gz.length (G7 gz)):=(fun W hb=>Cb (by simpa using ou) (fun g hg=>hb.block g (ou.lt g hg).2));have iy:Qi (Below w2.heap.size w2 u1):=((oO w2 (.cells #[] 30) (.cells #[O J s.a,O J s.b] 30)).drew).grown mi (by simp[oU] <;> omega) (fun k h=>by cases h;simp <;> omega);have TC:u1.cell? ⟨X,1,none⟩=some (O J s.a):=((Ce iy.o).1 _ _ sl).trans s1;have s2u:u1.cell? ⟨X,2,none⟩=some (O J s.b):=((Ce iy.o).1 _ _ sl).trans s2;have slu:=cell_lt TC;have HS1:Qi (u1.heap[w2.heap.size+1]?=some (.cells #[O J s.a,O J s.b] 30)):=(mi.block (w2.heap.size+1) (by simp[oU] <;> omega) (by intro h;simp[Value.ownBlock] at h)).trans (show ((w2.alloc (.cells #[] 30)).alloc (.cells #[O J s.a,O J s.b] 30)).heap[w2.heap.size+1]?=some (.cells #[O J s.a,O J s.b] 30) by simpa using fP (w2.alloc (.cells #[] 30)) (.cells #[O J s.a,O J s.b] 30));obtain⟨aX,ZH⟩:∃ k,k=w2.heap.size+1:=⟨_,rfl⟩;rw[<- ZH] at HS1;clear ou mi yu)
   | (refine J4 rfl (.tmp 76) (.tmp 78) rfl w2.heap.size (Y (some ⟨w2.heap.size+1,0,none⟩) 0 0) 0 [] (by simp[oQ]) (Zr (show ((w2.alloc (.cells #[O J s.a,O J s.b] 30)).alloc (.cells #[] 30)).heap[w2.heap.size+1]?=some (.cells #[] 30) by simpa using fP (w2.alloc (.cells #[O J s.a,O J s.b] 30)) (.cells #[] 30)) (Nat.le_succ _)) aK cK gz (by simp[oQ]) (FO.o _ (by exact(oO w2 (.cells #[O J s.a,O J s.b] 30) (.cells #[] 30)).drew)) (by omega) (by simp[oU] <;> omega) ?_;intro v1 u1 ou mi yu;have BQ:Qi (∀ W:Wq,Below u1.heap.size u1 W->W.ownsRow w2.heap.size 30 2 v1 gz.length (G7 gz)):=(fun W hb=>Cb (by simpa using ou) (fun g hg=>hb.block g (ou.lt g hg).2));have iy:Qi (Below w2.heap.size w2 u1):=((oO w2 (.cells #[O J s.a,O J s.b] 30) (.cells #[] 30)).drew).grown mi (by simp[oU] <;> omega) (fun k h=>by cases h;simp <;> omega);have TC:u1.cell? ⟨X,1,none⟩=some (O J s.a):=((Ce iy.o).1 _ _ sl).trans s1;have s2u:u1.cell? ⟨X,2,none⟩=some (O J s.b):=((Ce iy.o).1 _ _ sl).trans s2;have slu:=cell_lt TC;have HS1:Qi (u1.heap[w2.heap.size]?=some (.cells #[O J s.a,O J s.b] 30)):=(mi.block (w2.heap.size) (by simp[oU] <;> omega) (by intro h;simp[Value.ownBlock] at h)).trans ((fU (w2.alloc (.cells #[O J s.a,O J s.b] 30)) (.cells #[] 30) w2.heap.size (by simp)).trans (fP w2 (.cells #[O J s.a,O J s.b] 30)));obtain⟨aX,ZH⟩:∃ k,k=w2.heap.size:=⟨_,rfl⟩;rw[<- ZH] at HS1;clear ou mi yu)
   | (have hS0:=HS1.o;refine Dq _ rfl (.tmp 79) (.tmp 82) 45 rfl w2.heap.size 30 i0 (.agg #[O J 0,O J 0]) 2 16 underlying45 hi ng qj pq rfl (by first|decide|exact Ex.ne _ _ (by decide)) v1 gz.length (G7 gz) (by simp[oQ]) (BQ.o _ (by exact dK _ u1)) ⟨aX,0,none⟩ 1 1 [O J s.a,O J s.b] (by simp[oQ,ZH]) rfl (a5s (W':=w) (hS0)) (by intro u hu;simp at hu;rcases hu with rfl|rfl <;> rfl) (by unfold maxLen;omega) (by omega) (by have:=iy.o.size;simp <;> omega) ?_;intro v2 u2 lu qf EK EU;obtain⟨g,bg,rfl⟩:=ownsRow_form lu (by omega);have rJ:Qi (Below w2.heap.size w2 u2):=(iy.o.trans ((dK _ u1).mono iy.o.size)).grown qf (by have:=iy.o.size;simp <;> omega) (fun k h=>by have:=((BQ.o _ (dK _ u1)).lt k h).1;exact this);have uw:Qi (u2.ownsRow w2.heap.size 30 2 (Y (some ⟨g,0,none⟩) (gz.length+1) bg) (gz.length+1) (G7 gz ++ [O J s.a,O J s.b])):=lu;clear lu qf EK EU f0 f1 f2 f3 f4 f5 f6 f7 f8 f9 ay au aj ak ff fs;have di:Qi (Lk Xb w u2 B lo (some ⟨gS,0,none⟩) aH aF aL cS cH cF cL M ⟨c,2,(j:Int)+1,jh,jg,nn,gz,false,ee⟩ aK cK):=ai.o.below rJ.o;obtain⟨f0,f1,f2,f3,f4,f5,f6,f7,f8,f9,ay,au,aj,ak,ff,fs⟩:=A8 (show u2.heap[w.heap.size]?=some (.cells #[O J c.k,O J c.a,O J c.b,O J c.t,O J c.q,O J c.h,O J 2,O J ((j:Int)+1),O J jh,O J jg,O J nn,Y aK gz.length cK,.bool false,O J ee] 47 (0,0)) from di.o.fb))
   | (refine Dq _ rfl (.tmp 79) (.tmp 82) 45 rfl w2.heap.size 30 i0 (.agg #[O J 0,O J 0]) 2 16 underlying45 hi ng qj pq rfl (by first|decide|exact Ex.ne _ _ (by decide)) v1 gz.length (G7 gz) (by simp[oQ]) (BQ.o _ (by exact A7 u1 (.cells #[O J s.a,O J s.b] 30))) ⟨u1.heap.size,0,none⟩ 1 1 [O J s.a,O J s.b] (by simp[oQ]) rfl (a5s (W':=w) (fP u1 (.cells #[O J s.a,O J s.b] 30))) (by intro u hu;simp at hu;rcases hu with rfl|rfl <;> rfl) (by unfold maxLen;omega) (by omega) (by have:=iy.o.size;simp <;> omega) ?_;intro v2 u2 lu qf EK EU;obtain⟨g,bg,rfl⟩:=ownsRow_form lu (by omega);have rJ:Qi (Below w2.heap.size w2 u2):=(iy.o.trans ((A7 u1 (.cells #[O J s.a,O J s.b] 30)).mono iy.o.size)).grown qf (by have:=iy.o.size;simp <;> omega) (fun k h=>by have:=((BQ.o _ (A7 u1 (.cells #[O J s.a,O J s.b] 30))).lt k h).1;exact this);have uw:Qi (u2.ownsRow w2.heap.size 30 2 (Y (some ⟨g,0,none⟩) (gz.length+1) bg) (gz.length+1) (G7 gz ++ [O J s.a,O J s.b])):=lu;clear lu qf EK EU f0 f1 f2 f3 f4 f5 f6 f7 f8 f9 ay au aj ak ff fs;have di:Qi (Lk Xb w u2 B lo (some ⟨gS,0,none⟩) aH aF aL cS cH cF cL M ⟨c,2,(j:Int)+1,jh,jg,nn,gz,false,ee⟩ aK cK):=ai.o.below rJ.o;obtain⟨f0,f1,f2,f3,f4,f5,f6,f7,f8,f9,ay,au,aj,ak,ff,fs⟩:=A8 (show u2.heap[w.heap.size]?=some (.cells #[O J c.k,O J c.a,O J c.b,O J c.t,O J c.q,O J c.h,O J 2,O J ((j:Int)+1),O J jh,O J jg,O J nn,Y aK gz.length cK,.bool false,O J ee] 47 (0,0)) from di.o.fb)))
 all_goals exact pg.o _ _ g bg rfl rfl rfl rfl (UW.o u2 g bg rJ.o uw.o).1 (UW.o u2 g bg rJ.o uw.o).2
end
end Go.Proofs.YthhgoenomehobaaGreat.mm
