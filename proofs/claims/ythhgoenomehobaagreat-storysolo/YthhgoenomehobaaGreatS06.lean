/- Parts. -/
import Derived.Test.YthhgoenomehobaaGreatS05
import Derived.Test.YthhgoenomehobaaGreatS02
import Derived.Test.YthhgoenomehobaaGreatS03
import Derived.Lib.BufferMore
import Derived.Deep.QuietTactic
import Derived.BigQuiet
import Derived.OrdersHeld
import Derived.Deep.Slices
import Derived.SizedLaws
import Derived.Carry
namespace Go.Proofs.YthhgoenomehobaaGreat.mm
set_option maxRecDepth 100000
set_option linter.unusedVariables false
open Go.Value renaming int → O, slice → Y
open Go.IntKind renaming i64 → J
section
open Go.ChangeShapes Go.WideShapes Go.ChangeAt Go.RowKit Go.Joins Go.Maps
structure Ag(w:World)(ao:Option Addr)(cap:Nat)(l:List (Int × Int)):Prop where
 le:l.length<=cap
 max:l.length*16<=140737488351232
 nil:ao=none->cap=0
 at_:l.length=0\/∃ b o,ao=some ⟨b,o,none⟩/\∀ i (h:i<l.length),w.cell? ⟨b,o+i*2,none⟩=some (O J l[i].1)/\w.cell? ⟨b,o+i*2+1,none⟩=some (O J l[i].2)
theorem Ag.below{w w':World}{ao:Option Addr}{cap:Nat}{l:List (Int × Int)}(r:Ag w ao cap l)(hb:Below w.heap.size w w'):Ag w' ao cap l:=by
 refine⟨r.le,r.max,r.nil,?_⟩
 rcases r.at_ with h|⟨b,o,h,hc⟩
 ·exact .inl h
 ·refine .inr ⟨b,o,h,fun i hi=>?_⟩
  obtain⟨c0,c1⟩:=hc i hi
  have lt:=cell_lt c0
  obtain⟨q,_⟩:=Eg hb
  exact⟨(q _ _ lt).trans c0,(q _ _ lt).trans c1⟩
theorem P7(w:World):Ag w none 0 []:=⟨by decide,by decide,fun _=>rfl,.inl rfl⟩
def O5(l:List (Int × Int)):List Value:=l.flatMap fun p=>[O J p.1,O J p.2]
theorem Yl(p:Int × Int)(l:List (Int × Int)):O5 (p :: l)=[O J p.1,O J p.2] ++ O5 l:=by simp[O5]
theorem Ro(l:List (Int × Int)):(O5 l).length=l.length*2:=by
 induction l with
 | nil=>rfl
 | cons s l ih=>rw[Yl,List.length_append,ih];simp;omega
theorem a0j(l:List (Int × Int))(i q:Nat)(h:i<l.length)(hq:q<2):(O5 l)[i*2+q]?=([O J l[i].1,O J l[i].2]:List Value)[q]?:=by
 induction l generalizing i with
 | nil=>simp at h
 | cons s l ih =>
  rw[Yl]
  match i with
  | 0 =>
   rw[List.getElem?_append_left (by simp;omega)]
   simp
  | i+1 =>
   rw[List.getElem?_append_right (by simp;omega)]
   rw[show ([O J s.1,O J s.2]:List Value).length=2 from rfl,show (i+1)*2+q - 2=i*2+q by omega,ih i (by simpa using h)]
   simp
theorem b0p(l:List (Int × Int)):∀ u∈O5 l,u.oneCell'=true:=by
 intro u hu
 simp only[O5,List.mem_flatMap,List.mem_cons,List.not_mem_nil,or_false] at hu
 obtain⟨s,_,h|h⟩:=hu <;> (subst h;rfl)
theorem Ag.src{w:World}{ao:Option Addr}{cap:Nat}{l:List (Int × Int)}(r:Ag w ao cap l):∀ ad,ao=some ad->∀ j u,(O5 l)[j]?=some u->w.cell? (ad.add j)=some u:=by
 rintro ad rfl j u hu
 have hj:j<l.length*2:=by
  rw[<- Ro]
  exact(List.getElem?_eq_some_iff.1 hu).1
 rcases r.at_ with h0|⟨b,o,e,hc⟩
 ·omega
 cases e
 have hi:j / 2<l.length:=by omega
 have e2:j / 2*2+j % 2=j:=by omega
 have hq:j % 2<2:=by omega
 obtain⟨c0,c1⟩:=hc (j / 2) hi
 rw[<- e2,a0j l _ _ hi hq] at hu
 rw[Addr.add_lit,<- e2]
 generalize j / 2=i at *
 generalize j % 2=q at *
 rw[<- Nat.add_assoc]
 match q,hq with
 | 0,_=>simp at hu;subst hu;exact c0
 | 1,_=>simp at hu;subst hu;exact c1
theorem Ag.own{w:World}{lo n cap:Nat}{ao:Option Addr}{l:List (Int × Int)}(h:w.ownsRow lo 30 2 (Y ao n cap) n (O5 l))(hm:l.length*16<=140737488351232):Ag w ao cap l:=by
 have hl:=h.1
 rw[Ro] at hl
 have hn:l.length=n:=by omega
 subst hn
 rcases h.2 with ⟨hv,h0⟩|⟨g,cap',cur,hv,hg,hb,hc,-,hs,ht⟩
 ·injection hv with h1 _ h3
  subst h1 h3
  exact⟨by omega,hm,fun _=>rfl,.inl h0⟩
 ·injection hv with h1 _ h3
  subst h1 h3
  refine⟨hc,hm,(fun h=>by cases h),.inr ⟨g,0,rfl,fun i hi=>?_⟩⟩
  have e:∀ q,q<2->w.cell? ⟨g,0+i*2+q,none⟩=([O J l[i].1,O J l[i].2]:List Value)[q]?:=fun q hq=>by
   rw[Nat.zero_add,h.cellAt _ (by omega),a0j l i q hi hq]
  exact⟨e 0 (by omega),e 1 (by omega)⟩
theorem Ag.hi{w w':World}{ao:Option Addr}{cap lo:Nat}{l:List (Int × Int)}(r:Ag w ao cap l)(hi:∀ ad,ao=some ad->lo<=ad.block)(hk:∀ k,lo<=k->w'.heap[k]?=w.heap[k]?):Ag w' ao cap l:=by
 refine⟨r.le,r.max,r.nil,?_⟩
 rcases r.at_ with h|⟨b,o,h,hc⟩
 ·exact .inl h
 ·refine .inr ⟨b,o,h,fun i hi'=>?_⟩
  have hb:=hk b (hi _ h)
  rw[World.cell?_of_block (a:=⟨b,o+i*2,none⟩) hb,World.cell?_of_block (a:=⟨b,o+i*2+1,none⟩) hb]
  exact hc i hi'
theorem iK:(Tryz.prog.info? 30).map (fun i=>(i.zero,i.size,i.bytes))=some (some (.agg #[O J 0,O J 0]),2,16):=by kernel_rfl
set_option maxHeartbeats 800000 in
theorem Xc(ad:Addr)(cap:Nat)(l:List (Int × Int))(w:World)(r:Ag w (some ad) cap l) :
  Calls Tryz.prog 104 #[Y (some ad) l.length cap] w fun e w'=>e=.returned (Y (some ⟨w.heap.size,0,none⟩) l.length l.length)/\w'.ownsRow w.heap.size 30 2 (Y (some ⟨w.heap.size,0,none⟩) l.length l.length) l.length (O5 l)/\Below w.heap.size w w':=by
 obtain⟨i0,hi,hz0,hz1,hz2⟩:=info_parts iK
 have m1:=r.max
 have m2:=r.le
 have HS:Hid _:=r.src
 have HN:Hid _:=r.nil
 clear r
 have q49:∀ (w:World) (a:Option Addr) (n c:Nat),(binOp .eql 45 (Y a n c) (Y none 0 0)).run Tryz.prog w=.ok (.bool a.isNone) w:=fun w a n c=>Lib.run_eql_slice_nil w _ _ a n c 0 0 Tryz.underlying45
 go_enter Tryz.func104,Tryz.ntmps104
 go_wp2_with (first
  | (at_make;refine wpList_make_own _ rfl _ _ 45 rfl w.heap.size 30 i0 (.agg #[O J 0,O J 0]) 2 Tryz.underlying45 hi hz0 hz1 .i64 .i64 _ l.length rfl rfl rfl (by rw[hz2];omega) (by unfold maxLen;omega) (Nat.le_refl _) ?_;intro w1 hown hgrow)
  | (at_builtin;refine wpList_append_fits_any _ rfl _ _ 45 rfl w.heap.size 30 i0 2 Tryz.underlying45 hi hz1 w.heap.size 0 l.length _ rfl hown (some ad) l.length cap (O5 l) rfl (Ro l) (fun h=>by have:=HN.out h;omega) (fun ad h j u hj=>hgrow.cell (HS.out ad h j u hj) (by intro hh;cases hh)) (b0p l) (by omega) ?_;intro w2 hown2 hgrow2))
 go_ret
 simp only[Nat.zero_add,List.nil_append] at hown2
 refine⟨by simp,hown2,?_⟩
 have:=((Below.refl w.heap.size w).grown hgrow (Nat.le_refl _) (fun k h=>by cases h))
 exact this.grown hgrow2 hgrow.size (fun k h=>by cases h;exact Nat.le_refl _)
theorem Xa(w:World):Calls Tryz.prog 104 #[Y none 0 0] w fun e w'=>e=.returned (Y none 0 0)/\w=w':=by
 have q49:∀ (w:World) (a:Option Addr) (n c:Nat),(binOp .eql 45 (Y a n c) (Y none 0 0)).run Tryz.prog w=.ok (.bool a.isNone) w:=fun w a n c=>Lib.run_eql_slice_nil w _ _ a n c 0 0 Tryz.underlying45
 go_enter Tryz.func104,Tryz.ntmps104
 go_wp2
 go_ret
 exact⟨rfl,rfl⟩
theorem a7n(ao:Option Addr)(cap:Nat)(l:List (Int × Int))(w:World)(r:Ag w ao cap l) :
  Calls Tryz.prog 104 #[Y ao l.length cap] w fun e w'=>∃ a c,e=.returned (Y a l.length c)/\Ag w' a c l/\(∀ ad,a=some ad->w.heap.size<=ad.block)/\Below w.heap.size w w':=by
 cases ao with
 | some ad =>
  refine(Xc ad cap l w r).mono ?_
  rintro e w' ⟨rfl,h1,h2⟩
  exact⟨_,_,rfl,Ag.own h1 r.max,b5j (Nat.le_refl _),h2⟩
 | none =>
  have hc:=r.nil rfl
  have hl:l=[]:=List.eq_nil_of_length_eq_zero (by have:=r.le;omega)
  subst hc hl
  refine(Xa w).mono ?_
  rintro e w' ⟨rfl,rfl⟩
  exact⟨_,_,rfl,P7 _,(fun _ h=>by cases h),Below.refl _ _⟩
theorem Uf(c:Cl)(w:World):Calls Tryz.prog 144 #[.agg #[O J c.kind,O J c.a,O J c.b,O J c.time,O J c.bk,O J c.slot]] w fun e w'=>e=.returned (.agg #[O J (Aw c).c.kind,O J (Aw c).c.a,O J (Aw c).c.b,O J (Aw c).c.time,O J (Aw c).c.bk,O J (Aw c).c.slot,O J (Aw c).pl,O J (Aw c).cur,O J (Aw c).prev,O J (Aw c).slot,O J (Aw c).n,Y none (Aw c).keys.length 0,.bool (Aw c).done,O J (Aw c).e])/\Below w.heap.size w w':=by
 go_enter Tryz.func144,Tryz.ntmps144
 go_wp2
 refine bodyPost_ret (v:=.agg #[O J (Aw c).c.kind,O J (Aw c).c.a,O J (Aw c).c.b,O J (Aw c).c.time,O J (Aw c).c.bk,O J (Aw c).c.slot,O J (Aw c).pl,O J (Aw c).cur,O J (Aw c).prev,O J (Aw c).slot,O J (Aw c).n,Y none (Aw c).keys.length 0,.bool (Aw c).done,O J (Aw c).e]) (by simp[results,Tryz.results144,go_sem,Aw]) rfl ⟨rfl,?_⟩
 repeat (first|exact Below.refl _ _|refine Below.alloc ?_ (by simp <;> omega) _|refine Below.setCell ?_ (by simp <;> omega) _)
set_option maxHeartbeats 3200000 in
theorem Np(f:Fr)(e0:Int)(aK:Option Addr)(cK:Nat)(w:World)(r:Ag w aK cK f.keys) :
  Calls Tryz.prog 199 #[.agg #[O J f.c.kind,O J f.c.a,O J f.c.b,O J f.c.time,O J f.c.bk,O J f.c.slot,O J f.pl,O J f.cur,O J f.prev,O J f.slot,O J f.n,Y aK f.keys.length cK,.bool f.done,O J f.e],O J e0] w fun e w'=>∃ a c,e=.returned (.agg #[O J (Af f e0).c.kind,O J (Af f e0).c.a,O J (Af f e0).c.b,O J (Af f e0).c.time,O J (Af f e0).c.bk,O J (Af f e0).c.slot,O J (Af f e0).pl,O J (Af f e0).cur,O J (Af f e0).prev,O J (Af f e0).slot,O J (Af f e0).n,Y a (Af f e0).keys.length c,.bool (Af f e0).done,O J (Af f e0).e])/\Ag w' a c f.keys/\(∀ ad,a=some ad->w.heap.size<=ad.block)/\Below w.heap.size w w':=by
 obtain⟨of,hof⟩:=frObj f aK cK
 obtain⟨oz,hoz⟩:∃ o:Obj,o=.cells #[O J 0,O J 0,O J 0,O J 0,O J 0,O J 0,O J 0,O J 0,O J 0,O J 0,O J 0,Y none 0 0,.bool false,O J 0] 47:=⟨_,rfl⟩
 have HE0:Hid (Env w ((w.alloc of).alloc oz) _ []):=((⟨Below.refl _ _,(fun p hp=>by cases hp),(fun p hp=>by cases hp)⟩:Env w w [] []).alloc of).alloc oz
 rw[show (w.alloc of).heap.size=w.heap.size+1 by simp] at HE0
 have HR:Hid (Ag w aK cK f.keys):=r
 clear r
 go_enter Tryz.func199,Tryz.ntmps199
 go_wp2_with fail
 rw[<- hof,<- hoz]
 generalize (w.alloc of).alloc oz=W0 at *
 subst hof hoz
 refine(a7n aK cK f.keys W0 (HR.out.below HE0.out.bl)).mono ?_
 rintro e w1 ⟨a1,c1,rfl,hr1,hi1,hb1⟩
 have HE1:Hid _:=HE0.out.below hb1
 have HR1:Hid (Ag w1 a1 c1 f.keys):=hr1
 have HHi:Hid (∀ ad,a1=some ad->w.heap.size+2<=ad.block):=fun ad h=>Nat.le_trans (HE0.out.lt (.head _)) (hi1 ad h)
 clear HE0 hb1 hr1 hi1
 have hbz:=HE1.out.box _ (.head _)
 have hbf:=HE1.out.box _ (.tail _ (.head _))
 obtain⟨f0,f1,f2,f3,f4,f5,f6,f7,f8,f9,f10,f11,f12,f13,ff,fs⟩:=Aa hbf
 obtain⟨g0,g1,g2,g3,g4,g5,g6,g7,g8,g9,g10,g11,g12,g13,gf,gs⟩:=Aa hbz
 have hne:w.heap.size+1≠w.heap.size:=by omega
 have HBl:Hid (Below w.heap.size w w1):=HE1.out.bl
 clear hbz hbf HE1
 go_wp2
 refine bodyPost_ret (v:=.agg #[O J (Af f e0).c.kind,O J (Af f e0).c.a,O J (Af f e0).c.b,O J (Af f e0).c.time,O J (Af f e0).c.bk,O J (Af f e0).c.slot,O J (Af f e0).pl,O J (Af f e0).cur,O J (Af f e0).prev,O J (Af f e0).slot,O J (Af f e0).n,Y a1 (Af f e0).keys.length c1,.bool (Af f e0).done,O J (Af f e0).e]) (by simp[results,Tryz.results199,go_sem,Af,g0,g1,g2,g3,g4,g5,g6,g7,g8,g9,g10,g11,g12,g13]) rfl ⟨a1,c1,rfl,HR1.out.hi HHi.out (fun k hk=>?_),(fun ad h=>Nat.le_trans (Nat.le_add_right _ 2) (HHi.out ad h)),?_⟩
 ·repeat rw[Below.heap_setCell _ _ _ _ (by dsimp only;omega)]
 ·iterate 17 (refine Below.setCell ?_ (by dsimp only;omega) _)
  exact HBl.out
theorem a0d(a b:Int)(n:Nat)(w:World)(hk:Ee a b=true)(hn:n<1\/4<n)(hm:n<=9223372036854775807) :
  Calls Tryz.prog 49 #[.agg #[O J a,O J b],O J n] w fun e w'=>e=.returned (.tuple #[O J 0,O J 3])/\Below w.heap.size w w':=by
 have HK:Hid (Ee a b=true):=hk
 clear hk
 rcases hn with h|h
 ·obtain rfl:n=0:=by omega
  go_enter Tryz.func49,Tryz.ntmps49
  go_wp2_with (first|(go_at_call 96;refine(P5 _ _ _ HK.out).mono ?_;rintro e w1 ⟨rfl,hb1⟩))
  go_ret2
  exact⟨rfl,((Below.refl _ _).alloc (Nat.le_refl _) _).trans (hb1.mono (by simp))⟩
 ·have h1:(1:Int)<=n:=by omega
  have h4:(4:Int)<n:=by omega
  go_enter Tryz.func49,Tryz.ntmps49
  go_wp2_with (first|(go_at_call 96;refine(P5 _ _ _ HK.out).mono ?_;rintro e w1 ⟨rfl,hb1⟩))
  go_ret2
  exact⟨rfl,((Below.refl _ _).alloc (Nat.le_refl _) _).trans (hb1.mono (by simp))⟩
def bkK(a b:Int)(n:Nat):Int:=if Ee a b then (if 1<=n/\n<=4 then Eh a b n else 0) else 0
theorem a2l(a b:Int)(n:Nat)(w:World)(hm:n<=9223372036854775807) :
  Calls Tryz.prog 49 #[.agg #[O J a,O J b],O J n] w fun e w'=>∃ x:Int,e=.returned (.tuple #[O J (bkK a b n),O J x])/\Below w.heap.size w w':=by
 cases hk:Ee a b
 ·refine(a2m a b n w hk).mono ?_
  rintro e w1 ⟨rfl,hb⟩
  exact⟨3,by unfold bkK;rw[hk];rfl,hb⟩
 ·by_cases hn:1<=n/\n<=4
  ·refine(U2 a b n w hk hn.1 hn.2).mono ?_
   rintro e w1 ⟨rfl,hb⟩
   exact⟨0,by unfold bkK;rw[hk,if_pos rfl,if_pos hn],hb⟩
  ·refine(a0d a b n w hk (by omega) hm).mono ?_
   rintro e w1 ⟨rfl,hb⟩
   exact⟨3,by unfold bkK;rw[hk,if_pos rfl,if_neg hn],hb⟩
theorem a0c{nH:Nat}{c:Cl}(h:c.kind=4\/c.kind=5):G7 nH c=c.bk:=by unfold G7;rw[if_pos h]
theorem a9y{nH:Nat}{c:Cl}(h:¬ (c.kind=4\/c.kind=5)):G7 nH c=bkK c.a c.b nH:=by unfold G7 bkK;rw[if_neg h]
theorem Dk(aS aH aF aL:Option Addr)(nS nH nF nL cS cH cF cL:Nat)(now:Int)(c:Cl)(w:World)(hh:nH<=9223372036854775807) :
  Calls Tryz.prog 34 #[.agg #[Y aS nS cS,Y aH nH cH,Y aF nF cF,Y aL nL cL,O J now],.agg #[O J c.kind,O J c.a,O J c.b,O J c.time,O J c.bk,O J c.slot]] w fun e w'=>e=.returned (O J (G7 nH c))/\Below w.heap.size w w':=by
 have b0:Below w.heap.size w ((w.alloc (.cells #[Y aS nS cS,Y aH nH cH,Y aF nF cF,Y aL nL cL,O J now] 25)).alloc (.cells #[O J c.kind,O J c.a,O J c.b,O J c.time,O J c.bk,O J c.slot] 32)):=below_alloc2 w _ _
 have hc:=fun W=>a2l c.a c.b nH W hh
 obtain⟨E0,hE0⟩:∃ x,x=G7 nH c:=⟨_,rfl⟩
 rw[<- hE0]
 have HE0:Hid (E0=G7 nH c):=hE0
 clear hE0
 by_cases h4:c.kind=4
 ·have HV:Hid (E0=c.bk):=HE0.out.trans (a0c (.inl h4))
  rw[h4] at b0 ⊢
  go_enter Tryz.func34,Tryz.ntmps34
  go_wp2
  go_ret
  exact⟨by rw[HV.out];rfl,b0⟩
 by_cases h5:c.kind=5
 ·have HV:Hid (E0=c.bk):=HE0.out.trans (a0c (.inr h5))
  rw[h5] at b0 ⊢
  go_enter Tryz.func34,Tryz.ntmps34
  go_wp2
  go_ret
  exact⟨by rw[HV.out];rfl,b0⟩
 have e4:(c.kind==4)=false:=by rw[beq_eq_false_iff_ne];exact h4
 have e5:(c.kind==5)=false:=by rw[beq_eq_false_iff_ne];exact h5
 have HV:Hid (E0=bkK c.a c.b nH):=HE0.out.trans (a9y (by omega))
 generalize bkK c.a c.b nH=bv at *
 clear h4 h5 HE0
 go_enter Tryz.func34,Tryz.ntmps34
 go_wp2_with (go_at_call 49;refine(hc _).mono ?_;rintro e w1 ⟨x1,rfl,hb1⟩)
 go_ret
 exact⟨by rw[HV.out];rfl,b0.trans (hb1.mono b0.size)⟩
end
section
open Go
theorem a0n{l:List Nat}{p q:Nat->Bool}(hq:∀ j,q j=true->p j=true):(l.filter q).length<=(l.filter p).length:=by
 induction l with
 | nil=>simp
 | cons x l ih =>
  simp only[List.filter_cons]
  by_cases h:q x=true
  ·rw[if_pos h,if_pos (hq x h)]
   simp only[List.length_cons]
   omega
  ·rw[if_neg h]
   split
   ·simp only[List.length_cons];omega
   ·exact ih
theorem filter_lt{l:List Nat}{p q:Nat->Bool}{i:Nat}(hi:i∈l)(hp:p i=true)(hqi:q i=false)(hq:∀ j,q j=true->p j=true):(l.filter q).length<(l.filter p).length:=by
 induction l with
 | nil=>cases hi
 | cons x l ih =>
  simp only[List.filter_cons]
  by_cases e:x=i
  ·subst e
   rw[if_pos hp,if_neg (by rw[hqi];simp)]
   have:=a0n (l:=l) hq
   simp only[List.length_cons]
   omega
  ·have hm:i∈l:=by
    rcases List.mem_cons.1 hi with h|h
    ·exact absurd h.symm e
    ·exact h
   have:=ih hm
   by_cases h:q x=true
   ·rw[if_pos h,if_pos (hq x h)]
    simp only[List.length_cons]
    omega
   ·rw[if_neg h]
    split
    ·simp only[List.length_cons];omega
    ·exact this
def unl(ops:Array Oper)(listed:Array Bool):Nat:=((List.range ops.size).filter fun i=>!listed.getD i true).length
theorem Lm{md:Region.Mode}{ops:Array Oper}{listed:Array Bool}{i:Nat}(h:i∈Region.ready md ops listed) :
  i<ops.size/\listed.getD i true=false/\∃ o,ops[i]?=some o/\∀ e∈o.after,Region.binds md e=true->listed.getD e.on false=true:=by
 unfold Region.ready at h
 rw[List.mem_filter] at h
 obtain⟨h1,h2⟩:=h
 rw[Bool.and_eq_true] at h2
 refine⟨by simpa using h1,by simpa using h2.1,?_⟩
 cases ho:ops[i]? with
 | none=>rw[ho] at h2;simp at h2
 | some o =>
  rw[ho] at h2
  refine⟨o,rfl,fun e he hb=>?_⟩
  have h3:=h2.2
  simp only[Option.map_some,Option.getD_some] at h3
  rw[Array.all_eq_true'] at h3
  have:=h3 e he
  rw[hb] at this
  simpa using this
theorem Zd{P:Program}{md:Region.Mode}{ops:Array Oper}{Q:Exit->Act->World->Prop}(Jq:Array Bool->Act->World->Prop)
  (step:∀ listed a w i,i∈Region.ready md ops listed->Jq listed a w->wpOp P ops Q i (fun a' w'=>Jq (listed.setIfInBounds i true) a' w') a w)
  (fin:∀ listed a w,Region.ready md ops listed=[]->Jq listed a w->Q .normal a w) :
  ∀ (fuel:Nat) (listed:Array Bool) (a:Act) (w:World),unl ops listed<=fuel->listed.size=ops.size->Jq listed a w->wpAny P md ops Q fuel listed a w
 | 0,listed,a,w,hf,hs,hJ=>by
  have hr:Region.ready md ops listed=[]:=by
   cases hr:Region.ready md ops listed with
   | nil=>rfl
   | cons i r =>
    have hi:i∈Region.ready md ops listed:=by rw[hr];simp
    obtain⟨h1,h2,_⟩:=Lm hi
    have:i∈(List.range ops.size).filter fun i=>!listed.getD i true:=by
     rw[List.mem_filter]
     exact⟨by simpa using h1,by rw[h2];rfl⟩
    unfold unl at hf
    have hz:((List.range ops.size).filter fun i=>!listed.getD i true)=[]:=List.eq_nil_of_length_eq_zero (by omega)
    rw[hz] at this
    cases this
  exact⟨hr,fin listed a w hr hJ⟩
 | fuel+1,listed,a,w,hf,hs,hJ=>by
  refine⟨fun hr=>fin listed a w hr hJ,fun i hi=>?_⟩
  obtain⟨h1,h2,_⟩:=Lm hi
  refine wpOp_mono (fun a' w' hJ'=>?_) (step listed a w i hi hJ)
  refine Zd Jq step fin fuel _ a' w' ?_ (by simpa using hs) hJ'
  have hlt:unl ops (listed.setIfInBounds i true)<unl ops listed:=by
   unfold unl
   refine filter_lt (i:=i) (by simpa using h1) (by rw[h2];rfl) ?_ ?_
   ·simp[Array.getD_eq_getD_getElem?,hs,h1]
   ·intro j hj
    by_cases e:i=j
    ·subst e
     rw[h2];rfl
    ·simpa [Array.getD_eq_getD_getElem?,Array.getElem?_setIfInBounds,e] using hj
  omega
theorem Qj{P:Program}{ops:Array Oper}{Q:Exit->Act->World->Prop}{id:Nat}{a:Act}{w:World}(hm:P.follows .mixedOrders=true)(Jq:Array Bool->Act->World->Prop)
  (start:Jq (Array.replicate ops.size false) a { w with drawn:=w.drawn+1 })
  (step:∀ listed a w i,i∈Region.ready .any ops listed->Jq listed a w->wpOp P ops Q i (fun a' w'=>Jq (listed.setIfInBounds i true) a' w') a w)
  (fin:∀ listed a w,Region.ready .any ops listed=[]->Jq listed a w->Q .normal a w):(Code.region id ops true).wp P Q a w:=by
 refine wp_region_any hm (Zd Jq step fin _ _ a _ ?_ (by simp) start)
 unfold unl
 exact Nat.le_trans (List.length_filter_le _ _) (by simp)
end
section
theorem Ii{G:Prop}(a:Go.Act)(R:Go.Act->Prop)(h:R a->G)(t:R a):G:=h t
end
section
open Go.ChangeShapes Go.WideShapes Go.ChangeAt Go.RowKit Go.Joins Go.Maps
variable {Xb:Ex}
set_option maxHeartbeats 800000 in
theorem a6g(w:World)(B gS gH nS nH j b cS cH:Nat)(fv lv nv:Value)(x nx ah:Int)
  (hB:w.heap[B]?=some (.cells (List.toArray (Y (some ⟨gS,0,none⟩) nS cS :: Y (some ⟨gH,0,none⟩) nH cH :: fv :: lv :: nv :: Xb.rs)) Xb.rt (0,0))) (hj:j<nS) (hb:b<nH) (hn:nS<=12) (hh:nH<=4) (ha:ah<=0)
  (c5:w.cell? ⟨gS,j*6+5,none⟩=some (O J nx)) (ch:w.cell? ⟨gH,b,none⟩=some (O J x)) (fh:w.frozen? ⟨gH,b,none⟩=false) :
  Calls Tryz.prog 216 #[.pointer (some ⟨B,0,none⟩),O J b,O J ah,O J j] w fun e w'=>e=.returned (.tuple #[])/\w'=w.setCell ⟨gH,b,none⟩ (O J nx):=by
 obtain⟨q0,q1,q2,q3,q4,-,-,-,-,-,qs⟩:=Aj hB
 clear hB
 go_enter Tryz.func216,Tryz.ntmps216
 go_wp2_with (go_at_call 140;refine(Q7 _ _ ha).mono ?_;rintro e w1 ⟨rfl,rfl⟩)
 go_end0
 exact⟨rfl,rfl⟩
set_option maxHeartbeats 800000 in
theorem b4k(w:World)(B gS gH nS nH j b p cS cH:Nat)(fv lv nv:Value)(x nx px:Int)
  (hB:w.heap[B]?=some (.cells (List.toArray (Y (some ⟨gS,0,none⟩) nS cS :: Y (some ⟨gH,0,none⟩) nH cH :: fv :: lv :: nv :: Xb.rs)) Xb.rt (0,0))) (hj:j<nS) (hb:b<nH) (hn:nS<=12) (hh:nH<=4) (hp:p<nS)
  (c5:w.cell? ⟨gS,j*6+5,none⟩=some (O J nx)) (d5:w.cell? ⟨gS,p*6+5,none⟩=some (O J px)) (fz:w.frozen? ⟨gS,p*6+5,none⟩=false) (ch:w.cell? ⟨gH,b,none⟩=some (O J x)) :
  Calls Tryz.prog 216 #[.pointer (some ⟨B,0,none⟩),O J b,O J ((p:Int)+1),O J j] w fun e w'=>e=.returned (.tuple #[])/\w'=w.setCell ⟨gS,p*6+5,none⟩ (O J nx):=by
 obtain⟨q0,q1,q2,q3,q4,-,-,-,-,-,qs⟩:=Aj hB
 clear hB
 go_enter Tryz.func216,Tryz.ntmps216
 go_wp2_with (go_at_call 140;refine(Q5 _ _ (by omega) (by omega)).mono ?_;rw[show (p:Int)+1 - 1=p by omega];rintro e w1 ⟨rfl,rfl⟩)
 go_end0
 exact⟨rfl,rfl⟩
end
section
open Go.ChangeShapes Go.WideShapes Go.ChangeAt Go.RowKit Go.Joins Go.Deep
theorem own:ownKnob Tryz.prog.godebug=none:=by kernel_rfl
theorem cells3:Tryz.prog.cellsOf 3=1:=by kernel_rfl
theorem cells37:Tryz.prog.cellsOf 30=2:=by kernel_rfl
variable {H:Type} {enc:TypeId × Value->H} {w:World}
theorem Zv{P:Program}{base:Nat}{spare:Nat->Bool}{held:Bool}{t:TypeId}{f0 f1 f2 f3 f4:Field}{fuel:Nat}{cs:List Value}{x:DataW H × List MemPlace}(ht:P.underlying t=some (.struct #[f0,f1,f2,f3,f4]))(h:DataW.trod enc P w base spare held fuel t cs=some x) :
  ∃ y0 y1 y2 y3 y4 n,x.1=.agg [y0.1,y1.1,y2.1,y3.1,y4.1]/\cs.length=P.cellsOf t/\DataW.trod enc P w base spare held n f0.type ((cs.drop f0.offset).take (P.cellsOf f0.type))=some y0 /\
   DataW.trod enc P w base spare held n f1.type ((cs.drop f1.offset).take (P.cellsOf f1.type))=some y1/\DataW.trod enc P w base spare held n f2.type ((cs.drop f2.offset).take (P.cellsOf f2.type))=some y2 /\
   DataW.trod enc P w base spare held n f3.type ((cs.drop f3.offset).take (P.cellsOf f3.type))=some y3/\DataW.trod enc P w base spare held n f4.type ((cs.drop f4.offset).take (P.cellsOf f4.type))=some y4:=by
 obtain⟨xs,n,_,rfl,hl,hlen,hf⟩:=DataW.trod_struct ht h
 match xs,hlen with
 | [y0,y1,y2,y3,y4],_=>exact⟨y0,y1,y2,y3,y4,n,by simp,hl,by simpa using hf 0 f0 rfl,by simpa using hf 1 f1 rfl,by simpa using hf 2 f2 rfl,by simpa using hf 3 f3 rfl,by simpa using hf 4 f4 rfl⟩
theorem six{cs:List Value}(h:cs.length=6):∃ c0 c1 c2 c3 c4 c5,cs=[c0,c1,c2,c3,c4,c5]:=by
 match cs,h with
 | [c0,c1,c2,c3,c4,c5],_=>exact⟨_,_,_,_,_,_,rfl⟩
end
section
open Go.ChangeShapes Go.WideShapes Go.ChangeAt Go.RowKit Go.Joins Go.Deep
theorem Ye:Tryz.prog.cellsOf 32=6:=by kernel_rfl
variable {H:Type} {enc:TypeId × Value->H} {w:World}
theorem a9h{fuel:Nat}{cs:List Value}{x:DataW H × List MemPlace}(h:DataW.trod enc Tryz.prog w 0 (fun _=>true) true fuel 32 cs=some x) :
  ∃ c:Cl,cs=[.int .i64 c.kind,.int .i64 c.a,.int .i64 c.b,.int .i64 c.time,.int .i64 c.bk,.int .i64 c.slot]:=by
 obtain⟨y0,y1,y2,y3,y4,n,_,hl,h0,h1,h2,h3,h4⟩:=Zv Tryz.underlying32 h
 rw[Ye] at hl
 obtain⟨c0,c1,c2,c3,c4,c5,rfl⟩:=six hl
 simp only[cells3,cells37] at h0 h1 h2 h3 h4
 obtain⟨r,e0,_⟩:=DataW.trod_int Tryz.underlying3 h0
 obtain⟨z0,z1,m,_,_,k0,k1⟩:=trod_struct2 Tryz.underlying30 h1
 simp only[cells3] at k0 k1
 obtain⟨a,e1,_⟩:=DataW.trod_int Tryz.underlying3 k0
 obtain⟨b,e2,_⟩:=DataW.trod_int Tryz.underlying3 k1
 obtain⟨u,e3,_⟩:=DataW.trod_int Tryz.underlying3 h2
 obtain⟨i,e4,_⟩:=DataW.trod_int Tryz.underlying3 h3
 obtain⟨nx,e5,_⟩:=DataW.trod_int Tryz.underlying3 h4
 simp at e0 e1 e2 e3 e4 e5
 subst e0 e1 e2 e3 e4 e5
 exact⟨⟨r,a,b,u,i,nx⟩,rfl⟩
end
end Go.Proofs.YthhgoenomehobaaGreat.mm
