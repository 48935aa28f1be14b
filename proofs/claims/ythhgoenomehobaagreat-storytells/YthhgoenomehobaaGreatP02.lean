/- Parts. -/
import Derived.Test.YthhgoenomehobaaGreatP01
import Derived.Deep.RegionLaw
namespace Go.Proofs.YthhgoenomehobaaGreat.mm
open List renaming getElem_mem → bJ, mem_cons → aZ, map_cons → bK, nodup_cons → bM
open Tryz
set_option maxRecDepth 100000
set_option linter.unusedVariables false
open Value renaming int → O, slice → Y
open IntKind renaming i64 → J
open Tryz renaming prog → Pg
open Go renaming World → Wq
variable (n a b:Int)(w:Wq){M:Mm}
def Ir(M:Mm)(b:Nat)(ahead a:Int):Mm :=
 if 0<ahead then { M with s:=M.s.set (ahead - 1).toNat { Aa M (ahead - 1) with next:=(Aa M a).next } } else { M with h:=M.h.set b (Aa M a).next }
def Path(S:List Sl):Int->List Int->Int->Prop
 | n,[],e=>n=e/\n<=0
 | n,a :: l,e=>n=a+1/\0<=a/\Path S (S.getD a.toNat sl0).next l e
theorem Zg(S:List Sl):∀ (k:Nat) (n:Int),Jk S k n<=0->Path S n (I7 S k n) (Jk S k n)/\(I7 S k n).length<=k
 | 0,n,h=>⟨⟨rfl,h⟩,by simp[I7]⟩
 | k+1,n,h=>by
  simp only[Jk,I7] at h ⊢
  by_cases hn:0<n
  ·rw[af hn] at h
   rw[af hn,af hn]
   have:=Zg S k _ h
   exact⟨⟨by omega,by omega,this.1⟩,by simpa using this.2⟩
  ·rw[ae hn] at h
   rw[ae hn,ae hn]
   exact⟨⟨rfl,h⟩,by simp⟩
theorem V8{S:List Sl}:∀ {n:Int} {l:List Int} {e:Int},Path S n l e->∀ a∈l,0<=a
 | _,[],_,_,_,ha=>by cases ha
 | _,x :: l,_,h,a,ha=>by
  rcases aZ.1 ha with rfl|ha
  ·exact h.2.1
  ·exact V8 h.2.2 a ha
theorem a5u{S:List Sl}{N:Nat}(hs:∀ s∈S,s.next<=N)(h0:(0:Int)<=N):∀ {n:Int} {l:List Int} {e:Int},n<=N->Path S n l e->∀ a∈l,a<N
 | _,[],_,_,_,_,ha=>by cases ha
 | n,x :: l,_,hn,h,a,ha=>by
  rcases aZ.1 ha with rfl|ha
  ·have:=h.1;omega
  ·refine a5u hs h0 (n:=(S.getD x.toNat sl0).next) ?_ h.2.2 a ha
   by_cases hx:x.toNat<S.length
   ·rw[getD_lt S _ hx];exact hs _ (bJ hx)
   ·rw[List.getD_eq_getElem?_getD,List.getElem?_eq_none (by omega)];exact h0
theorem b5t:∀ (n:Nat) (l:List Int),l.Nodup->(∀ a∈l,0<=a/\a<n)->l.length<=n
 | 0,l,hn,h=>by
  match l,h with
  | [],_=>simp
  | a :: _,h=>have:=h a (by simp);omega
 | n+1,l,hn,h=>by
  have h1:=b5t n (l.erase (n:Int)) (hn.erase _) (fun a ha=>by
   have h3:=(hn.mem_erase_iff).1 ha
   have h4:=h a h3.2
   have h5:=h3.1
   omega)
  rw[List.length_erase] at h1
  split at h1 <;> omega
theorem OkC.path(h:OkC M){b:Nat}(hb:b<M.h.length):Path M.s (Bq M b) (chL M b) (-1 - (b:Int)):=by
 have e:=h.ends b hb
 have:=(Zg M.s M.s.length (Bq M b) (by show chE M b<=0;omega)).1
 rw[show Jk M.s M.s.length (Bq M b)=-1 - (b:Int) from e] at this
 exact this
theorem Ok.Zp(h:Ok M){b:Nat}(hb:b<M.h.length):Bq M b≠0/\inB (Bq M b) (-(M.h.length:Int)) M.s.length=true:=by
 have hl:b<M.l.length:=by have:=h.nl;omega
 have hz:b<(M.h.zip M.l).length:=by simp;omega
 have:=h.chain _ (bJ hz)
 simp only[List.getElem_zip,Cj] at this
 have e:Bq M b=M.h[b]:=by simp[Bq,List.getD_eq_getElem?_getD,hb]
 rw[e]
 split at this
 ·rename_i hh;exact hh
 ·omega
theorem OkC.s(h:OkC M){b:Nat}(hb:b<M.h.length):∀ a∈chL M b,0<=a/\a<M.s.length:=by
 intro a ha
 have hp:=h.path hb
 refine⟨V8 hp a ha,a5u (fun s hs=>?_) (by omega) ?_ hp a ha⟩
 ·have:=(I5 (h.ok.h s hs)).2.2.2
  exact((Ar _ _ _).1 this).2
 ·exact((Ar _ _ _).1 (h.ok.Zp hb).2).2
theorem a7n{n:Nat}{a:Int}:a∈Bc M n ↔ ∃ b,b<n/\a∈chL M b:=by simp[Bc]
theorem b0l{a:Int}:a∈Nb M ↔ ∃ b,b<M.h.length/\a∈chL M b:=a7n
theorem U0{α β:Type}{f:α->β}:∀ {l:List α},(l.map f).Nodup->l.Nodup
 | [],_=>by simp
 | a :: l,h=>by
  rw[bK,bM] at h
  rw[bM]
  exact⟨fun hm=>h.1 (List.mem_map_of_mem hm),U0 h.2⟩
theorem OkC.a9g(h:OkC M):∀ a∈Nb M,0<=a/\a<M.s.length:=by
 intro a ha
 obtain⟨b,hb,hm⟩:=b0l.1 ha
 exact h.s hb a hm
theorem a6j{n:Nat}(hn:1<=n):0<=Eh a b n/\Eh a b n<n:=⟨Int.emod_nonneg _ (by omega),Int.emod_lt_of_pos _ (by omega)⟩
section
open ChangeShapes WideShapes ChangeAt RowKit
theorem Qd(h0:0<=b)(h1:b<=1000):Calls Pg 108 #[O J b] w fun e w'=>e=.returned (O J (-1 - b))/\w=w':=by
 go_enter func108,ntmps108
 go_wp2
 go_ret
 exact⟨by go_num,rfl⟩
theorem a4u(h0:0<=b)(h1:b<=1000):Calls Pg 214 #[O J b] w fun e w'=>e=.returned (O J (b+1))/\w=w':=by
 go_enter func214,ntmps214
 go_wp2
 go_ret
 exact⟨by go_num,rfl⟩
theorem Qb(h:n<=0):Calls Pg 140 #[O J n] w fun e w'=>e=.returned (.tuple #[O J 0,.bool false])/\w=w':=by
 go_enter func140,ntmps140
 go_wp2
 go_ret2
 exact⟨rfl,rfl⟩
theorem Qa(h:0<n)(h1:n<=1000):Calls Pg 140 #[O J n] w fun e w'=>e=.returned (.tuple #[O J (n - 1),.bool true])/\w=w':=by
 go_enter func140,ntmps140
 go_wp2
 go_ret2
 exact⟨by go_num,rfl⟩
theorem H7(aS aH aF aL:Option Addr)(nS nH nF nL cS cH cF cL:Nat)(je a:Int)(w:Wq)(hn:nH<=9223372036854775807) :
  Calls Pg 97 #[.agg #[Y aS nS cS,Y aH nH cH,Y aF nF cF,Y aL nL cL,O J je],O J a] w fun e w'=>e=.returned (.bool (inB a 0 ((nH:Int) - 1)))/\Below w.heap.size w w':=by
 by_cases h:0<=a
 ·by_cases h2:a<nH
  ·go_enter func97,ntmps97
   go_wp2
   go_ret
   refine⟨?_,A7 _ _⟩
   rw[show inB a 0 ((nH:Int) - 1)=true from (Ar _ _ _).2 ⟨h,by omega⟩];rfl
  ·have h3:(nH:Int)<=a:=by omega
   go_enter func97,ntmps97
   go_wp2
   go_ret
   refine⟨?_,A7 _ _⟩
   rw[show inB a 0 ((nH:Int) - 1)=false by simp[inB];omega];rfl
 ·have h':a<0:=by omega
  go_enter func97,ntmps97
  go_wp2
  go_ret
  refine⟨?_,A7 _ _⟩
  rw[show inB a 0 ((nH:Int) - 1)=false by simp[inB];omega];rfl
theorem Dq{P:Program}(w:Wq){bn:Array Oper}{o:Oper}{a:Act}{K:Act->Wq->Prop}{Q:Exit->Act->Wq->Prop}{E:Prop}(rY:o.guard=none)(s x:Operand)(t:TypeId)
  (ho:o.op=.call { callee:=.builtin .append,args:=#[s,x],argTypes:=#[t,t] })
  (base:Nat) (e:TypeId) (i:TypeInfo) (z:Value) (size bytes:Nat) (ht:P.underlying t=some (.slice e)) (hi:P.info? e=some i) (hz:i.zero=some z)
  (vk:i.size=size) (vG:i.bytes=bytes) (NK:z.cells.size=size) (qg:0<size)
  (v:Value) (n:Nat) (xs:List Value) (hs:a.eval s=v) (jv:w.ownsRow base e size v n xs)
  (ad:Addr) (m c:Nat) (jw:List Value) (hx:a.eval x=Y (some ad) m c) (hl:jw.length=m*size) (sQ:∀ j u,jw[j]?=some u->w.cell? (ad.add j)=some u) (h1:∀ u∈jw,u.oneCell'=true)
  (RF:n+m<=maxLen) (uz:(n+m)*bytes<=140737488355328) (vW:base<=w.heap.size)
  (h:∀ v' w',w'.ownsRow base e size v' (n+m) (xs++jw)->w.grownBy w' v.ownBlock->(v'=Y none 0 0 ↔ v=Y none 0 0/\m=0)->(v'.ownBlock=v.ownBlock\/v'.ownBlock=some w.heap.size)->K (a.put o.dst v') w') :
  if Region.wanted o (yielded bn a.tmps)=true then Oper.wp P o a w K Q else E:=by
 have hw:Region.wanted o (yielded bn a.tmps)=true:=by simp[Region.wanted,rY]
 rw[af hw]
 obtain⟨v',w',hr,h2,h3,h4,h5⟩:=run_append_own_at (P:=P) w base t o.type e i z size bytes ht hi hz vk vG NK qg v n xs jv ad m c jw hl sQ h1 RF uz vW
 unfold Oper.wp execOp
 simp only[ho,resolve,invoke,builtin,Sem.run_bind,Sem.run_pure,Result.andThen_ok,List.map_toArray,bK,List.map_nil,hs,hx,hr]
 exact h v' w' h2 h3 h4 h5
end
end Go.Proofs.YthhgoenomehobaaGreat.mm
