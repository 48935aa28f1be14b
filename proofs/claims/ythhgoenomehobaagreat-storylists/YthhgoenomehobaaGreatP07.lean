/- Parts. -/
import Derived.Test.YthhgoenomehobaaGreatP06
import Derived.Test.YthhgoenomehobaaGreatP02
import Derived.Test.YthhgoenomehobaaGreatP03
import Derived.Lib.BufferMore
import Derived.Deep.QuietTactic
import Derived.BigQuiet
import Derived.OrdersHeld
import Derived.Deep.Slices
import Derived.SizedLaws
import Derived.Carry
namespace Go.Proofs.YthhgoenomehobaaGreat.mm
set_option maxRecDepth 100000
set_option linter.unusedVariables false
open Go.Value renaming int → O, slice → Y
open Go.IntKind renaming i64 → J
section
open Go.ChangeShapes Go.WideShapes Go.ChangeAt Go.RowKit Go.Joins Go.Maps
structure KRow(w:World)(ao:Option Addr)(cap:Nat)(l:List (Int × Int)):Prop where
 le:l.length<=cap
 max:l.length*16<=140737488351232
 nil:ao=none->cap=0
 at_:l.length=0\/∃ b o,ao=some ⟨b,o,none⟩/\∀ i (h:i<l.length),w.cell? ⟨b,o+i*2,none⟩=some (O J l[i].1)/\w.cell? ⟨b,o+i*2+1,none⟩=some (O J l[i].2)
theorem KRow.below{w w':World}{ao:Option Addr}{cap:Nat}{l:List (Int × Int)}(r:KRow w ao cap l)(hb:Below w.heap.size w w'):KRow w' ao cap l:=by
 refine⟨r.le,r.max,r.nil,?_⟩
 rcases r.at_ with h|⟨b,o,h,hc⟩
 ·exact .inl h
 ·refine .inr ⟨b,o,h,fun i hi=>?_⟩
  obtain⟨c0,c1⟩:=hc i hi
  have lt:=cell_lt c0
  obtain⟨q,_⟩:=Ee hb
  exact⟨(q _ _ lt).trans c0,(q _ _ lt).trans c1⟩
theorem Lt(w:World):KRow w none 0 []:=⟨by decide,by decide,fun _=>rfl,.inl rfl⟩
def encK(l:List (Int × Int)):List Value:=l.flatMap fun p=>[O J p.1,O J p.2]
theorem Vl(p:Int × Int)(l:List (Int × Int)):encK (p :: l)=[O J p.1,O J p.2] ++ encK l:=by simp[encK]
theorem Ov(l:List (Int × Int)):(encK l).length=l.length*2:=by
 induction l with
 | nil=>rfl
 | cons s l ih=>rw[Vl,List.length_append,ih];simp;omega
theorem Y9(l:List (Int × Int))(i q:Nat)(h:i<l.length)(hq:q<2):(encK l)[i*2+q]?=([O J l[i].1,O J l[i].2]:List Value)[q]?:=by
 induction l generalizing i with
 | nil=>simp at h
 | cons s l ih =>
  rw[Vl]
  match i with
  | 0 =>
   rw[List.getElem?_append_left (by simp;omega)]
   simp
  | i+1 =>
   rw[List.getElem?_append_right (by simp;omega)]
   rw[show ([O J s.1,O J s.2]:List Value).length=2 from rfl,show (i+1)*2+q - 2=i*2+q by omega,ih i (by simpa using h)]
   simp
theorem encK_one(l:List (Int × Int)):∀ u∈encK l,u.oneCell'=true:=by
 intro u hu
 simp only[encK,List.mem_flatMap,List.mem_cons,List.not_mem_nil,or_false] at hu
 obtain⟨s,_,h|h⟩:=hu <;> (subst h;rfl)
theorem KRow.src{w:World}{ao:Option Addr}{cap:Nat}{l:List (Int × Int)}(r:KRow w ao cap l):∀ ad,ao=some ad->∀ j u,(encK l)[j]?=some u->w.cell? (ad.add j)=some u:=by
 rintro ad rfl j u hu
 have hj:j<l.length*2:=by
  rw[<- Ov]
  exact(List.getElem?_eq_some_iff.1 hu).1
 rcases r.at_ with h0|⟨b,o,e,hc⟩
 ·omega
 cases e
 have hi:j / 2<l.length:=by omega
 have e2:j / 2*2+j % 2=j:=by omega
 have hq:j % 2<2:=by omega
 obtain⟨c0,c1⟩:=hc (j / 2) hi
 rw[<- e2,Y9 l _ _ hi hq] at hu
 rw[Addr.add_lit,<- e2]
 generalize j / 2=i at *
 generalize j % 2=q at *
 rw[<- Nat.add_assoc]
 match q,hq with
 | 0,_=>simp at hu;subst hu;exact c0
 | 1,_=>simp at hu;subst hu;exact c1
theorem KRow.own{w:World}{lo n cap:Nat}{ao:Option Addr}{l:List (Int × Int)}(h:w.ownsRow lo 30 2 (Y ao n cap) n (encK l))(hm:l.length*16<=140737488351232):KRow w ao cap l:=by
 have hl:=h.1
 rw[Ov] at hl
 have hn:l.length=n:=by omega
 subst hn
 rcases h.2 with ⟨hv,h0⟩|⟨g,cap',cur,hv,hg,hb,hc,-,hs,ht⟩
 ·injection hv with h1 _ h3
  subst h1 h3
  exact⟨by omega,hm,fun _=>rfl,.inl h0⟩
 ·injection hv with h1 _ h3
  subst h1 h3
  refine⟨hc,hm,(fun h=>by cases h),.inr ⟨g,0,rfl,fun i hi=>?_⟩⟩
  have e:∀ q,q<2->w.cell? ⟨g,0+i*2+q,none⟩=([O J l[i].1,O J l[i].2]:List Value)[q]?:=fun q hq=>by
   rw[Nat.zero_add,h.cellAt _ (by omega),Y9 l i q hi hq]
  exact⟨e 0 (by omega),e 1 (by omega)⟩
theorem KRow.hi{w w':World}{ao:Option Addr}{cap lo:Nat}{l:List (Int × Int)}(r:KRow w ao cap l)(hi:∀ ad,ao=some ad->lo<=ad.block)(hk:∀ k,lo<=k->w'.heap[k]?=w.heap[k]?):KRow w' ao cap l:=by
 refine⟨r.le,r.max,r.nil,?_⟩
 rcases r.at_ with h|⟨b,o,h,hc⟩
 ·exact .inl h
 ·refine .inr ⟨b,o,h,fun i hi'=>?_⟩
  have hb:=hk b (hi _ h)
  rw[World.cell?_of_block (a:=⟨b,o+i*2,none⟩) hb,World.cell?_of_block (a:=⟨b,o+i*2+1,none⟩) hb]
  exact hc i hi'
theorem iK:(Tryz.prog.info? 30).map (fun i=>(i.zero,i.size,i.bytes))=some (some (.agg #[O J 0,O J 0]),2,16):=by kernel_rfl
set_option maxHeartbeats 800000 in
theorem Tq(ad:Addr)(cap:Nat)(l:List (Int × Int))(w:World)(r:KRow w (some ad) cap l) :
  Calls Tryz.prog 104 #[Y (some ad) l.length cap] w fun e w'=>e=.returned (Y (some ⟨w.heap.size,0,none⟩) l.length l.length)/\w'.ownsRow w.heap.size 30 2 (Y (some ⟨w.heap.size,0,none⟩) l.length l.length) l.length (encK l)/\Below w.heap.size w w':=by
 obtain⟨i0,hi,hz0,hz1,hz2⟩:=info_parts iK
 have m1:=r.max
 have m2:=r.le
 have HS:Hid _:=r.src
 have HN:Hid _:=r.nil
 clear r
 have q49:∀ (w:World) (a:Option Addr) (n c:Nat),(binOp .eql 45 (Y a n c) (Y none 0 0)).run Tryz.prog w=.ok (.bool a.isNone) w:=fun w a n c=>Lib.run_eql_slice_nil w _ _ a n c 0 0 Tryz.underlying45
 go_enter Tryz.func104,Tryz.ntmps104
 go_wp2_with (first
  | (at_make;refine wpList_make_own _ rfl _ _ 45 rfl w.heap.size 30 i0 (.agg #[O J 0,O J 0]) 2 Tryz.underlying45 hi hz0 hz1 .i64 .i64 _ l.length rfl rfl rfl (by rw[hz2];omega) (by unfold maxLen;omega) (Nat.le_refl _) ?_;intro w1 hown hgrow)
  | (at_builtin;refine wpList_append_fits_any _ rfl _ _ 45 rfl w.heap.size 30 i0 2 Tryz.underlying45 hi hz1 w.heap.size 0 l.length _ rfl hown (some ad) l.length cap (encK l) rfl (Ov l) (fun h=>by have:=HN.out h;omega) (fun ad h j u hj=>hgrow.cell (HS.out ad h j u hj) (by intro hh;cases hh)) (encK_one l) (by omega) ?_;intro w2 hown2 hgrow2))
 go_ret
 simp only[Nat.zero_add,List.nil_append] at hown2
 refine⟨by simp,hown2,?_⟩
 have:=((Below.refl w.heap.size w).grown hgrow (Nat.le_refl _) (fun k h=>by cases h))
 exact this.grown hgrow2 hgrow.size (fun k h=>by cases h;exact Nat.le_refl _)
theorem Tn(w:World):Calls Tryz.prog 104 #[Y none 0 0] w fun e w'=>e=.returned (Y none 0 0)/\w=w':=by
 have q49:∀ (w:World) (a:Option Addr) (n c:Nat),(binOp .eql 45 (Y a n c) (Y none 0 0)).run Tryz.prog w=.ok (.bool a.isNone) w:=fun w a n c=>Lib.run_eql_slice_nil w _ _ a n c 0 0 Tryz.underlying45
 go_enter Tryz.func104,Tryz.ntmps104
 go_wp2
 go_ret
 exact⟨rfl,rfl⟩
theorem a2y(ao:Option Addr)(cap:Nat)(l:List (Int × Int))(w:World)(r:KRow w ao cap l) :
  Calls Tryz.prog 104 #[Y ao l.length cap] w fun e w'=>∃ a c,e=.returned (Y a l.length c)/\KRow w' a c l/\(∀ ad,a=some ad->w.heap.size<=ad.block)/\Below w.heap.size w w':=by
 cases ao with
 | some ad =>
  refine(Tq ad cap l w r).mono ?_
  rintro e w' ⟨rfl,h1,h2⟩
  exact⟨_,_,rfl,KRow.own h1 r.max,hi_some (Nat.le_refl _),h2⟩
 | none =>
  have hc:=r.nil rfl
  have hl:l=[]:=List.eq_nil_of_length_eq_zero (by have:=r.le;omega)
  subst hc hl
  refine(Tn w).mono ?_
  rintro e w' ⟨rfl,rfl⟩
  exact⟨_,_,rfl,Lt _,(fun _ h=>by cases h),Below.refl _ _⟩
theorem Qr(c:Cl)(w:World):Calls Tryz.prog 144 #[.agg #[O J c.kind,O J c.a,O J c.b,O J c.time,O J c.bk,O J c.slot]] w fun e w'=>e=.returned (.agg #[O J (newF c).c.kind,O J (newF c).c.a,O J (newF c).c.b,O J (newF c).c.time,O J (newF c).c.bk,O J (newF c).c.slot,O J (newF c).pl,O J (newF c).cur,O J (newF c).prev,O J (newF c).slot,O J (newF c).n,Y none (newF c).keys.length 0,.bool (newF c).done,O J (newF c).e])/\Below w.heap.size w w':=by
 go_enter Tryz.func144,Tryz.ntmps144
 go_wp2
 refine bodyPost_ret (v:=.agg #[O J (newF c).c.kind,O J (newF c).c.a,O J (newF c).c.b,O J (newF c).c.time,O J (newF c).c.bk,O J (newF c).c.slot,O J (newF c).pl,O J (newF c).cur,O J (newF c).prev,O J (newF c).slot,O J (newF c).n,Y none (newF c).keys.length 0,.bool (newF c).done,O J (newF c).e]) (by simp[results,Tryz.results144,go_sem,newF]) rfl ⟨rfl,?_⟩
 repeat (first|exact Below.refl _ _|refine Below.alloc ?_ (by simp <;> omega) _|refine Below.setCell ?_ (by simp <;> omega) _)
set_option maxHeartbeats 3200000 in
theorem Js(f:Fr)(e0:Int)(aK:Option Addr)(cK:Nat)(w:World)(r:KRow w aK cK f.keys) :
  Calls Tryz.prog 199 #[.agg #[O J f.c.kind,O J f.c.a,O J f.c.b,O J f.c.time,O J f.c.bk,O J f.c.slot,O J f.pl,O J f.cur,O J f.prev,O J f.slot,O J f.n,Y aK f.keys.length cK,.bool f.done,O J f.e],O J e0] w fun e w'=>∃ a c,e=.returned (.agg #[O J (endF f e0).c.kind,O J (endF f e0).c.a,O J (endF f e0).c.b,O J (endF f e0).c.time,O J (endF f e0).c.bk,O J (endF f e0).c.slot,O J (endF f e0).pl,O J (endF f e0).cur,O J (endF f e0).prev,O J (endF f e0).slot,O J (endF f e0).n,Y a (endF f e0).keys.length c,.bool (endF f e0).done,O J (endF f e0).e])/\KRow w' a c f.keys/\(∀ ad,a=some ad->w.heap.size<=ad.block)/\Below w.heap.size w w':=by
 obtain⟨of,hof⟩:=frObj f aK cK
 obtain⟨oz,hoz⟩:∃ o:Obj,o=.cells #[O J 0,O J 0,O J 0,O J 0,O J 0,O J 0,O J 0,O J 0,O J 0,O J 0,O J 0,Y none 0 0,.bool false,O J 0] 47:=⟨_,rfl⟩
 have HE0:Hid (Env w ((w.alloc of).alloc oz) _ []):=((⟨Below.refl _ _,(fun p hp=>by cases hp),(fun p hp=>by cases hp)⟩:Env w w [] []).alloc of).alloc oz
 rw[show (w.alloc of).heap.size=w.heap.size+1 by simp] at HE0
 have HR:Hid (KRow w aK cK f.keys):=r
 clear r
 go_enter Tryz.func199,Tryz.ntmps199
 go_wp2_with fail
 rw[<- hof,<- hoz]
 generalize (w.alloc of).alloc oz=W0 at *
 subst hof hoz
 refine(a2y aK cK f.keys W0 (HR.out.below HE0.out.bl)).mono ?_
 rintro e w1 ⟨a1,c1,rfl,hr1,hi1,hb1⟩
 have HE1:Hid _:=HE0.out.below hb1
 have HR1:Hid (KRow w1 a1 c1 f.keys):=hr1
 have HHi:Hid (∀ ad,a1=some ad->w.heap.size+2<=ad.block):=fun ad h=>Nat.le_trans (HE0.out.lt (.head _)) (hi1 ad h)
 clear HE0 hb1 hr1 hi1
 have hbz:=HE1.out.box _ (.head _)
 have hbf:=HE1.out.box _ (.tail _ (.head _))
 obtain⟨f0,f1,f2,f3,f4,f5,f6,f7,f8,f9,f10,f11,f12,f13,ff,fs⟩:=A7 hbf
 obtain⟨g0,g1,g2,g3,g4,g5,g6,g7,g8,g9,g10,g11,g12,g13,gf,gs⟩:=A7 hbz
 have hne:w.heap.size+1≠w.heap.size:=by omega
 have HBl:Hid (Below w.heap.size w w1):=HE1.out.bl
 clear hbz hbf HE1
 go_wp2
 refine bodyPost_ret (v:=.agg #[O J (endF f e0).c.kind,O J (endF f e0).c.a,O J (endF f e0).c.b,O J (endF f e0).c.time,O J (endF f e0).c.bk,O J (endF f e0).c.slot,O J (endF f e0).pl,O J (endF f e0).cur,O J (endF f e0).prev,O J (endF f e0).slot,O J (endF f e0).n,Y a1 (endF f e0).keys.length c1,.bool (endF f e0).done,O J (endF f e0).e]) (by simp[results,Tryz.results199,go_sem,endF,g0,g1,g2,g3,g4,g5,g6,g7,g8,g9,g10,g11,g12,g13]) rfl ⟨a1,c1,rfl,HR1.out.hi HHi.out (fun k hk=>?_),(fun ad h=>Nat.le_trans (Nat.le_add_right _ 2) (HHi.out ad h)),?_⟩
 ·repeat rw[Below.heap_setCell _ _ _ _ (by dsimp only;omega)]
 ·iterate 17 (refine Below.setCell ?_ (by dsimp only;omega) _)
  exact HBl.out
set_option maxHeartbeats 1600000 in
theorem X8(a1 a2:Option Addr)(c1 c2:Nat)(l:List (Int × Int))(w:World)(r1:KRow w a1 c1 l)(r2:KRow w a2 c2 l) :
  Calls Tryz.prog 54 #[Y a1 l.length c1,Y a2 l.length c2] w fun e w'=>e=.returned (.bool true)/\Below w.heap.size w w':=by
 have m1:=r1.max
 have n1:l.length<=9223372036854775807:=by omega
 have HZ1:Hid _:=r1.at_
 have HZ2:Hid _:=r2.at_
 clear r1 r2
 go_enter Tryz.func54,Tryz.ntmps54
 go_wp2
 go_loopw [13] (fun i wr=>∃ k q:Nat,k<=l.length/\i=O J k/\wr=w.drewN q) (fun i _=>l.length - (intOf i).toNat)
 case atStart=>exact⟨0,0,Nat.zero_le _,rfl,rfl⟩
 case round =>
  obtain⟨k,q,hk,rfl,rfl⟩:=hrel
  by_cases hlt:k<l.length
  ·rcases HZ1.out with h0|⟨b1,o1,rfl,hc1⟩
   ·omega
   rcases HZ2.out with h0|⟨b2,o2,rfl,hc2⟩
   ·omega
   obtain⟨x0,x1⟩:=hc1 k hlt
   obtain⟨y0,y1⟩:=hc2 k hlt
   rw[<- World.cell?_drewN (n:=q)] at x0 x1 y0 y1
   clear hc1 hc2
   generalize hwq:w.drewN q=wq at x0 x1 y0 y1 ⊢
   have HWQ:Hid _:=hwq
   clear hwq
   generalize l[k].1=xa at x0 y0
   generalize l[k].2=xb at x1 y1
   have se:∀ W:World,(Op.equalIn 10000 30 (.agg #[O J xa,O J xb]) (.agg #[O J xa,O J xb])).run Tryz.prog W=.ok true W:=fun W=>by rw[Ls];simp
   go_wp2_with fail
   go_quiet (fail)
   go_wp2
   go_roundw
   case rel=>exact⟨k+1,q+nq,by omega,by go_num,by rw[<- HWQ.out,World.drewN_drewN]⟩
   case measure=>simp[intOf];omega
  ·go_wp2
   go_ret
   exact⟨rfl,below_draws _ _ _⟩
theorem cequal(c:Cl)(w:World):(Op.equalIn 10000 32 (.agg #[O J c.kind,O J c.a,O J c.b,O J c.time,O J c.bk,O J c.slot]) (.agg #[O J c.kind,O J c.a,O J c.b,O J c.time,O J c.bk,O J c.slot])).run Tryz.prog w=.ok true w:=by
 have u3:=Tryz.underlying3
 have a3:=Tryz.isAgg3
 have z3:=Tryz.sizeOf3
 have a37:=Tryz.isAgg30
 have z37:=Tryz.sizeOf30
 have k9:=Xh
 have hS:Tryz.prog.underlying 32=some (.struct (Tryz.prog.fieldsOf 32)):=by kernel_rfl
 have hp:Tryz.prog.stoodInHeld 32=false:=by kernel_rfl
 rw[show (10000:Nat)=9999+1 from rfl,run_equalIn_agg w 9999 32 _ _ hS hp]
 simp only[Program.fieldsOf,Tryz.underlying32]
 clear hS
 go_simp
set_option maxHeartbeats 1600000 in
theorem Xo(f:Fr)(aK aK':Option Addr)(cK cK':Nat)(w:World)(r:KRow w aK cK f.keys)(r':KRow w aK' cK' f.keys) :
  Calls Tryz.prog 23 #[.agg #[O J f.c.kind,O J f.c.a,O J f.c.b,O J f.c.time,O J f.c.bk,O J f.c.slot,O J f.pl,O J f.cur,O J f.prev,O J f.slot,O J f.n,Y aK f.keys.length cK,.bool f.done,O J f.e],.agg #[O J f.c.kind,O J f.c.a,O J f.c.b,O J f.c.time,O J f.c.bk,O J f.c.slot,O J f.pl,O J f.cur,O J f.prev,O J f.slot,O J f.n,Y aK' f.keys.length cK',.bool f.done,O J f.e]] w fun e w'=>e=.returned (.bool true)/\Below w.heap.size w w':=by
 obtain⟨of,hof⟩:=frObj f aK cK
 obtain⟨oz,hoz⟩:∃ o:Obj,o=.cells #[O J f.c.kind,O J f.c.a,O J f.c.b,O J f.c.time,O J f.c.bk,O J f.c.slot,O J f.pl,O J f.cur,O J f.prev,O J f.slot,O J f.n,Y aK' f.keys.length cK',.bool f.done,O J f.e] 47:=⟨_,rfl⟩
 have HE0:Hid (Env w ((w.alloc of).alloc oz) _ []):=((⟨Below.refl _ _,(fun p hp=>by cases hp),(fun p hp=>by cases hp)⟩:Env w w [] []).alloc of).alloc oz
 rw[show (w.alloc of).heap.size=w.heap.size+1 by simp] at HE0
 have HR:Hid (KRow w aK cK f.keys):=r
 have HR':Hid (KRow w aK' cK' f.keys):=r'
 clear r r'
 have ce:=cequal f.c
 go_enter Tryz.func23,Tryz.ntmps23
 go_wp2_with fail
 rw[<- hof,<- hoz]
 generalize (w.alloc of).alloc oz=W0 at *
 subst hof hoz
 refine(X8 aK aK' cK cK' f.keys W0 (HR.out.below HE0.out.bl) (HR'.out.below HE0.out.bl)).mono ?_
 rintro e w1 ⟨rfl,hb1⟩
 have HE1:Hid _:=HE0.out.below hb1
 clear HE0 hb1
 obtain⟨f0,f1,f2,f3,f4,f5,f6,f7,f8,f9,f10,f11,f12,f13,-,fs⟩:=A7 (HE1.out.box _ (.tail _ (.head _)))
 obtain⟨g0,g1,g2,g3,g4,g5,g6,g7,g8,g9,g10,g11,g12,g13,-,gs⟩:=A7 (HE1.out.box _ (.head _))
 go_wp2
 go_ret
 exact⟨rfl,HE1.out.bl⟩
theorem X5(a b:Int)(n:Nat)(w:World)(hk:keyB a b=true)(hn:n<1\/4<n)(hm:n<=9223372036854775807) :
  Calls Tryz.prog 49 #[.agg #[O J a,O J b],O J n] w fun e w'=>e=.returned (.tuple #[O J 0,O J 3])/\Below w.heap.size w w':=by
 have HK:Hid (keyB a b=true):=hk
 clear hk
 rcases hn with h|h
 ·obtain rfl:n=0:=by omega
  go_enter Tryz.func49,Tryz.ntmps49
  go_wp2_with (first|(go_at_call 96;refine(Lr _ _ _ HK.out).mono ?_;rintro e w1 ⟨rfl,hb1⟩))
  go_ret2
  exact⟨rfl,((Below.refl _ _).alloc (Nat.le_refl _) _).trans (hb1.mono (by simp))⟩
 ·have h1:(1:Int)<=n:=by omega
  have h4:(4:Int)<n:=by omega
  go_enter Tryz.func49,Tryz.ntmps49
  go_wp2_with (first|(go_at_call 96;refine(Lr _ _ _ HK.out).mono ?_;rintro e w1 ⟨rfl,hb1⟩))
  go_ret2
  exact⟨rfl,((Below.refl _ _).alloc (Nat.le_refl _) _).trans (hb1.mono (by simp))⟩
def bkK(a b:Int)(n:Nat):Int:=if keyB a b then (if 1<=n/\n<=4 then Eo a b n else 0) else 0
theorem Zc(a b:Int)(n:Nat)(w:World)(hm:n<=9223372036854775807) :
  Calls Tryz.prog 49 #[.agg #[O J a,O J b],O J n] w fun e w'=>∃ x:Int,e=.returned (.tuple #[O J (bkK a b n),O J x])/\Below w.heap.size w w':=by
 cases hk:keyB a b
 ·refine(Zd a b n w hk).mono ?_
  rintro e w1 ⟨rfl,hb⟩
  exact⟨3,by unfold bkK;rw[hk];rfl,hb⟩
 ·by_cases hn:1<=n/\n<=4
  ·refine(V5 a b n w hk hn.1 hn.2).mono ?_
   rintro e w1 ⟨rfl,hb⟩
   exact⟨0,by unfold bkK;rw[hk,if_pos rfl,if_pos hn],hb⟩
  ·refine(X5 a b n w hk (by omega) hm).mono ?_
   rintro e w1 ⟨rfl,hb⟩
   exact⟨3,by unfold bkK;rw[hk,if_pos rfl,if_neg hn],hb⟩
theorem Y4{nH:Nat}{c:Cl}(h:c.kind=4\/c.kind=5):bkOf nH c=c.bk:=by unfold bkOf;rw[if_pos h]
theorem bkOf_key{nH:Nat}{c:Cl}(h:¬ (c.kind=4\/c.kind=5)):bkOf nH c=bkK c.a c.b nH:=by unfold bkOf bkK;rw[if_neg h]
theorem Bh(aS aH aF aL:Option Addr)(nS nH nF nL cS cH cF cL:Nat)(now:Int)(c:Cl)(w:World)(hh:nH<=9223372036854775807) :
  Calls Tryz.prog 34 #[.agg #[Y aS nS cS,Y aH nH cH,Y aF nF cF,Y aL nL cL,O J now],.agg #[O J c.kind,O J c.a,O J c.b,O J c.time,O J c.bk,O J c.slot]] w fun e w'=>e=.returned (O J (bkOf nH c))/\Below w.heap.size w w':=by
 have b0:Below w.heap.size w ((w.alloc (.cells #[Y aS nS cS,Y aH nH cH,Y aF nF cF,Y aL nL cL,O J now] 25)).alloc (.cells #[O J c.kind,O J c.a,O J c.b,O J c.time,O J c.bk,O J c.slot] 32)):=below_alloc2 w _ _
 have hc:=fun W=>Zc c.a c.b nH W hh
 obtain⟨E0,hE0⟩:∃ x,x=bkOf nH c:=⟨_,rfl⟩
 rw[<- hE0]
 have HE0:Hid (E0=bkOf nH c):=hE0
 clear hE0
 by_cases h4:c.kind=4
 ·have HV:Hid (E0=c.bk):=HE0.out.trans (Y4 (.inl h4))
  rw[h4] at b0 ⊢
  go_enter Tryz.func34,Tryz.ntmps34
  go_wp2
  go_ret
  exact⟨by rw[HV.out];rfl,b0⟩
 by_cases h5:c.kind=5
 ·have HV:Hid (E0=c.bk):=HE0.out.trans (Y4 (.inr h5))
  rw[h5] at b0 ⊢
  go_enter Tryz.func34,Tryz.ntmps34
  go_wp2
  go_ret
  exact⟨by rw[HV.out];rfl,b0⟩
 have e4:(c.kind==4)=false:=by rw[beq_eq_false_iff_ne];exact h4
 have e5:(c.kind==5)=false:=by rw[beq_eq_false_iff_ne];exact h5
 have HV:Hid (E0=bkK c.a c.b nH):=HE0.out.trans (bkOf_key (by omega))
 generalize bkK c.a c.b nH=bv at *
 clear h4 h5 HE0
 go_enter Tryz.func34,Tryz.ntmps34
 go_wp2_with (go_at_call 49;refine(hc _).mono ?_;rintro e w1 ⟨x1,rfl,hb1⟩)
 go_ret
 exact⟨by rw[HV.out];rfl,b0.trans (hb1.mono b0.size)⟩
end
section
open Go
theorem X9{l:List Nat}{p q:Nat->Bool}(hq:∀ j,q j=true->p j=true):(l.filter q).length<=(l.filter p).length:=by
 induction l with
 | nil=>simp
 | cons x l ih =>
  simp only[List.filter_cons]
  by_cases h:q x=true
  ·rw[if_pos h,if_pos (hq x h)]
   simp only[List.length_cons]
   omega
  ·rw[if_neg h]
   split
   ·simp only[List.length_cons];omega
   ·exact ih
theorem filter_lt{l:List Nat}{p q:Nat->Bool}{i:Nat}(hi:i∈l)(hp:p i=true)(hqi:q i=false)(hq:∀ j,q j=true->p j=true):(l.filter q).length<(l.filter p).length:=by
 induction l with
 | nil=>cases hi
 | cons x l ih =>
  simp only[List.filter_cons]
  by_cases e:x=i
  ·subst e
   rw[if_pos hp,if_neg (by rw[hqi];simp)]
   have:=X9 (l:=l) hq
   simp only[List.length_cons]
   omega
  ·have hm:i∈l:=by
    rcases List.mem_cons.1 hi with h|h
    ·exact absurd h.symm e
    ·exact h
   have:=ih hm
   by_cases h:q x=true
   ·rw[if_pos h,if_pos (hq x h)]
    simp only[List.length_cons]
    omega
   ·rw[if_neg h]
    split
    ·simp only[List.length_cons];omega
    ·exact this
def unl(ops:Array Oper)(listed:Array Bool):Nat:=((List.range ops.size).filter fun i=>!listed.getD i true).length
theorem Gt{md:Region.Mode}{ops:Array Oper}{listed:Array Bool}{i:Nat}(h:i∈Region.ready md ops listed) :
  i<ops.size/\listed.getD i true=false/\∃ o,ops[i]?=some o/\∀ e∈o.after,Region.binds md e=true->listed.getD e.on false=true:=by
 unfold Region.ready at h
 rw[List.mem_filter] at h
 obtain⟨h1,h2⟩:=h
 rw[Bool.and_eq_true] at h2
 refine⟨by simpa using h1,by simpa using h2.1,?_⟩
 cases ho:ops[i]? with
 | none=>rw[ho] at h2;simp at h2
 | some o =>
  rw[ho] at h2
  refine⟨o,rfl,fun e he hb=>?_⟩
  have h3:=h2.2
  simp only[Option.map_some,Option.getD_some] at h3
  rw[Array.all_eq_true'] at h3
  have:=h3 e he
  rw[hb] at this
  simpa using this
theorem X3{P:Program}{md:Region.Mode}{ops:Array Oper}{Q:Exit->Act->World->Prop}(Jq:Array Bool->Act->World->Prop)
  (step:∀ listed a w i,i∈Region.ready md ops listed->Jq listed a w->wpOp P ops Q i (fun a' w'=>Jq (listed.setIfInBounds i true) a' w') a w)
  (fin:∀ listed a w,Region.ready md ops listed=[]->Jq listed a w->Q .normal a w) :
  ∀ (fuel:Nat) (listed:Array Bool) (a:Act) (w:World),unl ops listed<=fuel->listed.size=ops.size->Jq listed a w->wpAny P md ops Q fuel listed a w
 | 0,listed,a,w,hf,hs,hJ=>by
  have hr:Region.ready md ops listed=[]:=by
   cases hr:Region.ready md ops listed with
   | nil=>rfl
   | cons i r =>
    have hi:i∈Region.ready md ops listed:=by rw[hr];simp
    obtain⟨h1,h2,_⟩:=Gt hi
    have:i∈(List.range ops.size).filter fun i=>!listed.getD i true:=by
     rw[List.mem_filter]
     exact⟨by simpa using h1,by rw[h2];rfl⟩
    unfold unl at hf
    have hz:((List.range ops.size).filter fun i=>!listed.getD i true)=[]:=List.eq_nil_of_length_eq_zero (by omega)
    rw[hz] at this
    cases this
  exact⟨hr,fin listed a w hr hJ⟩
 | fuel+1,listed,a,w,hf,hs,hJ=>by
  refine⟨fun hr=>fin listed a w hr hJ,fun i hi=>?_⟩
  obtain⟨h1,h2,_⟩:=Gt hi
  refine wpOp_mono (fun a' w' hJ'=>?_) (step listed a w i hi hJ)
  refine X3 Jq step fin fuel _ a' w' ?_ (by simpa using hs) hJ'
  have hlt:unl ops (listed.setIfInBounds i true)<unl ops listed:=by
   unfold unl
   refine filter_lt (i:=i) (by simpa using h1) (by rw[h2];rfl) ?_ ?_
   ·simp[Array.getD_eq_getD_getElem?,hs,h1]
   ·intro j hj
    by_cases e:i=j
    ·subst e
     rw[h2];rfl
    ·simpa [Array.getD_eq_getD_getElem?,Array.getElem?_setIfInBounds,e] using hj
  omega
theorem J6{P:Program}{ops:Array Oper}{Q:Exit->Act->World->Prop}{id:Nat}{a:Act}{w:World}(hm:P.follows .mixedOrders=true)(Jq:Array Bool->Act->World->Prop)
  (start:Jq (Array.replicate ops.size false) a { w with drawn:=w.drawn+1 })
  (step:∀ listed a w i,i∈Region.ready .any ops listed->Jq listed a w->wpOp P ops Q i (fun a' w'=>Jq (listed.setIfInBounds i true) a' w') a w)
  (fin:∀ listed a w,Region.ready .any ops listed=[]->Jq listed a w->Q .normal a w):(Code.region id ops true).wp P Q a w:=by
 refine wp_region_any hm (X3 Jq step fin _ _ a _ ?_ (by simp) start)
 unfold unl
 exact Nat.le_trans (List.length_filter_le _ _) (by simp)
end
section
theorem Gw{G:Prop}(a:Go.Act)(R:Go.Act->Prop)(h:R a->G)(t:R a):G:=h t
end
section
open Go.ChangeShapes Go.WideShapes Go.ChangeAt Go.RowKit Go.Joins Go.Maps
variable {Xb:Ex}
set_option maxHeartbeats 800000 in
theorem a1o(w:World)(B gS gH nS nH j b cS cH:Nat)(fv lv nv:Value)(x nx ah:Int)
  (hB:w.heap[B]?=some (.cells (List.toArray (Y (some ⟨gS,0,none⟩) nS cS :: Y (some ⟨gH,0,none⟩) nH cH :: fv :: lv :: nv :: Xb.rs)) Xb.rt (0,0))) (hj:j<nS) (hb:b<nH) (hn:nS<=12) (hh:nH<=4) (ha:ah<=0)
  (c5:w.cell? ⟨gS,j*6+5,none⟩=some (O J nx)) (ch:w.cell? ⟨gH,b,none⟩=some (O J x)) (fh:w.frozen? ⟨gH,b,none⟩=false) :
  Calls Tryz.prog 216 #[.pointer (some ⟨B,0,none⟩),O J b,O J ah,O J j] w fun e w'=>e=.returned (.tuple #[])/\w'=w.setCell ⟨gH,b,none⟩ (O J nx):=by
 obtain⟨q0,q1,q2,q3,q4,-,-,-,-,-,qs⟩:=boxf hB
 clear hB
 go_enter Tryz.func216,Tryz.ntmps216
 go_wp2_with (go_at_call 140;refine(Nj _ _ ha).mono ?_;rintro e w1 ⟨rfl,rfl⟩)
 go_end0
 exact⟨rfl,rfl⟩
set_option maxHeartbeats 800000 in
theorem cut_mid(w:World)(B gS gH nS nH j b p cS cH:Nat)(fv lv nv:Value)(x nx px:Int)
  (hB:w.heap[B]?=some (.cells (List.toArray (Y (some ⟨gS,0,none⟩) nS cS :: Y (some ⟨gH,0,none⟩) nH cH :: fv :: lv :: nv :: Xb.rs)) Xb.rt (0,0))) (hj:j<nS) (hb:b<nH) (hn:nS<=12) (hh:nH<=4) (hp:p<nS)
  (c5:w.cell? ⟨gS,j*6+5,none⟩=some (O J nx)) (d5:w.cell? ⟨gS,p*6+5,none⟩=some (O J px)) (fz:w.frozen? ⟨gS,p*6+5,none⟩=false) (ch:w.cell? ⟨gH,b,none⟩=some (O J x)) :
  Calls Tryz.prog 216 #[.pointer (some ⟨B,0,none⟩),O J b,O J ((p:Int)+1),O J j] w fun e w'=>e=.returned (.tuple #[])/\w'=w.setCell ⟨gS,p*6+5,none⟩ (O J nx):=by
 obtain⟨q0,q1,q2,q3,q4,-,-,-,-,-,qs⟩:=boxf hB
 clear hB
 go_enter Tryz.func216,Tryz.ntmps216
 go_wp2_with (go_at_call 140;refine(Nh _ _ (by omega) (by omega)).mono ?_;rw[show (p:Int)+1 - 1=p by omega];rintro e w1 ⟨rfl,rfl⟩)
 go_end0
 exact⟨rfl,rfl⟩
end
section
open Go.ChangeShapes Go.WideShapes Go.ChangeAt Go.RowKit Go.Joins Go.Deep
theorem own:ownKnob Tryz.prog.godebug=none:=by kernel_rfl
theorem cells3:Tryz.prog.cellsOf 3=1:=by kernel_rfl
theorem cells4:Tryz.prog.cellsOf 4=1:=by kernel_rfl
theorem cells37:Tryz.prog.cellsOf 30=2:=by kernel_rfl
theorem cells48:Tryz.prog.cellsOf 64=6:=by kernel_rfl
theorem cells29:Tryz.prog.cellsOf 25=5:=by kernel_rfl
theorem cells24:Tryz.prog.cellsOf 23=1:=by kernel_rfl
theorem cells27:Tryz.prog.cellsOf 22=1:=by kernel_rfl
theorem bytes3:Tryz.prog.bytesOf 3=8:=by kernel_rfl
theorem bytes48:Tryz.prog.bytesOf 64=48:=by kernel_rfl
variable {H:Type} {enc:TypeId × Value->H} {w:World}
theorem Jr{P:Program}{base:Nat}{spare:Nat->Bool}{held:Bool}{t:TypeId}{f0 f1 f2 f3 f4:Field}{fuel:Nat}{cs:List Value}{x:DataW H × List MemPlace}(ht:P.underlying t=some (.struct #[f0,f1,f2,f3,f4]))(h:DataW.trod enc P w base spare held fuel t cs=some x) :
  ∃ y0 y1 y2 y3 y4 n,x.1=.agg [y0.1,y1.1,y2.1,y3.1,y4.1]/\cs.length=P.cellsOf t/\DataW.trod enc P w base spare held n f0.type ((cs.drop f0.offset).take (P.cellsOf f0.type))=some y0 /\
   DataW.trod enc P w base spare held n f1.type ((cs.drop f1.offset).take (P.cellsOf f1.type))=some y1/\DataW.trod enc P w base spare held n f2.type ((cs.drop f2.offset).take (P.cellsOf f2.type))=some y2 /\
   DataW.trod enc P w base spare held n f3.type ((cs.drop f3.offset).take (P.cellsOf f3.type))=some y3/\DataW.trod enc P w base spare held n f4.type ((cs.drop f4.offset).take (P.cellsOf f4.type))=some y4:=by
 obtain⟨xs,n,_,rfl,hl,hlen,hf⟩:=DataW.trod_struct ht h
 match xs,hlen with
 | [y0,y1,y2,y3,y4],_=>exact⟨y0,y1,y2,y3,y4,n,by simp,hl,by simpa using hf 0 f0 rfl,by simpa using hf 1 f1 rfl,by simpa using hf 2 f2 rfl,by simpa using hf 3 f3 rfl,by simpa using hf 4 f4 rfl⟩
theorem six{cs:List Value}(h:cs.length=6):∃ c0 c1 c2 c3 c4 c5,cs=[c0,c1,c2,c3,c4,c5]:=by
 match cs,h with
 | [c0,c1,c2,c3,c4,c5],_=>exact⟨_,_,_,_,_,_,rfl⟩
theorem a3s{fuel:Nat}{cs:List Value}{x:DataW H × List MemPlace}(h:DataW.trod enc Tryz.prog w 0 (fun _=>true) true fuel 64 cs=some x):∃ s:Sl,cs=s.enc:=by
 obtain⟨y0,y1,y2,y3,y4,n,_,hl,h0,h1,h2,h3,h4⟩:=Jr Tryz.underlying64 h
 rw[cells48] at hl
 obtain⟨c0,c1,c2,c3,c4,c5,rfl⟩:=six hl
 simp only[cells3,cells4,cells37] at h0 h1 h2 h3 h4
 obtain⟨r,e0,_⟩:=DataW.trod_int Tryz.underlying3 h0
 obtain⟨z0,z1,m,_,_,k0,k1⟩:=trod_struct2 Tryz.underlying30 h1
 simp only[cells3] at k0 k1
 obtain⟨a,e1,_⟩:=DataW.trod_int Tryz.underlying3 k0
 obtain⟨b,e2,_⟩:=DataW.trod_int Tryz.underlying3 k1
 obtain⟨u,e3,_⟩:=DataW.trod_int Tryz.underlying3 h2
 obtain⟨i,e4,_⟩:=DataW.trod_bool Tryz.underlying4 h3
 obtain⟨nx,e5,_⟩:=DataW.trod_int Tryz.underlying3 h4
 simp at e0 e1 e2 e3 e4 e5
 subst e0 e1 e2 e3 e4 e5
 exact⟨⟨r,a,b,u,i,nx⟩,rfl⟩
theorem N9{fuel:Nat}{c:Value}{x:DataW H × List MemPlace}(h:DataW.trod enc Tryz.prog w 0 (fun _=>true) true fuel 23 [c]=some x)(hz:∀ n∈x.1.weights Tryz.prog 23,n<=reachBytes) :
  ∃ l ao cap,c=.slice ao l.length cap/\IRow w ao cap l:=by
 rcases open_ints Tryz.underlying23 Tryz.underlying3 cells3 h with ⟨e,-⟩|⟨a,len,cap,zs,e,hb,hl,hm,hlen,hx,hc,hwf⟩
 ·simp at e
  exact⟨[],none,0,e,Nat.zero_le _,by decide,fun _=>rfl,.inl rfl⟩
 ·simp at e hlen
  subst e
  have hlt:(zs.take len).length=len:=by rw[List.length_take];omega
  refine⟨zs.take len,some a,cap,by rw[hlt],by omega,?_,(fun h=>by cases h),?_⟩
  ·rw[hx] at hz
   have:=hz ((len+(cap - len))*8) (by simp[DataW.weights,Tryz.underlying23,bytes3,lits,hlen];left;omega)
   unfold reachBytes at this
   rw[hlt]
   omega
  ·by_cases h0:len=0
   ·left;omega
   ·right
    obtain⟨b,off,spot⟩:=a
    have hspot:spot=none:=by simpa [Addr.add] using World.cell?_spot (hc 0 (by omega))
    subst hspot
    refine⟨b,off,rfl,fun i hi=>?_⟩
    have:=hc i (by omega)
    rw[Addr.add_lit] at this
    rw[this]
    have hi':i<zs.length:=by omega
    simp[List.getD_eq_getElem?_getD,hi']
theorem a3t{fuel:Nat}{c:Value}{x:DataW H × List MemPlace}(h:DataW.trod enc Tryz.prog w 0 (fun _=>true) true fuel 22 [c]=some x)(hz:∀ n∈x.1.weights Tryz.prog 22,n<=reachBytes) :
  ∃ l ao cap,c=.slice ao l.length cap/\SRow w ao cap l:=by
 rcases open_slice Tryz.underlying22 h with ⟨e,-⟩|⟨a,len,cap,m,n,D,Pl,e,hb,hl,hm,hmm,hx,hc⟩
 ·simp at e
  exact⟨[],none,0,e,Nat.zero_le _,by decide,fun _=>rfl,.inl rfl⟩
 ·simp at e hmm
  subst e hmm
  rw[cells48] at hc
  obtain⟨S,hS⟩:=@choose_lt Sl ⟨sl0⟩ len (fun i s=>w.cells? 0 (a.add (i*6)) 6=some s.enc) (fun i hi=>by
   obtain⟨cs',h1,h2⟩:=hc i (by omega)
   obtain⟨s,rfl⟩:=a3s h2
   exact⟨s,h1⟩)
  have hlt:((List.range len).map S).length=len:=by simp
  refine⟨(List.range len).map S,some a,m,by rw[hlt],by omega,?_,(fun h=>by cases h),?_⟩
  ·rw[hx] at hz
   have:=hz ((len+(m - len))*48) (by simp[DataW.weights,Tryz.underlying22,bytes48])
   unfold reachBytes at this
   rw[hlt]
   omega
  ·by_cases h0:len=0
   ·left;omega
   ·right
    obtain⟨b,off,spot⟩:=a
    have hspot:spot=none:=by
     have:=(World.cells?_some (hS 0 (by omega))).2.2 0 (by omega)
     simpa [Addr.add] using World.cell?_spot this
    subst hspot
    refine⟨b,off,rfl,fun i hi=>?_⟩
    have hi':i<len:=by simpa using hi
    have k:∀ q,q<6->w.cell? ⟨b,off+i*6+q,none⟩=((S i).enc)[q]?:=fun q hq=>by
     have:=(World.cells?_some (hS i hi')).2.2 q hq
     rwa [Addr.add_lit,Addr.add_lit] at this
    have e:((List.range len).map S)[i]=S i:=by simp
    rw[e]
    exact⟨k 0 (by omega),k 1 (by omega),k 2 (by omega),k 3 (by omega),k 4 (by omega),k 5 (by omega)⟩
end
section
open Go.ChangeShapes Go.WideShapes Go.ChangeAt Go.RowKit Go.Joins Go.Deep
theorem Q7:Tryz.prog.cellsOf 32=6:=by kernel_rfl
theorem Sm:Tryz.prog.cellsOf 47=14:=by kernel_rfl
theorem cellsErr:Tryz.prog.cellsOf 36=1:=by kernel_rfl
theorem a1k:Tryz.prog.cellsOf 45=1:=by kernel_rfl
theorem bytesKey:Tryz.prog.bytesOf 30=16:=by kernel_rfl
variable {H:Type} {enc:TypeId × Value->H} {w:World}
theorem Wv{fuel:Nat}{cs:List Value}{x:DataW H × List MemPlace}(h:DataW.trod enc Tryz.prog w 0 (fun _=>true) true fuel 32 cs=some x) :
  ∃ c:Cl,cs=[.int .i64 c.kind,.int .i64 c.a,.int .i64 c.b,.int .i64 c.time,.int .i64 c.bk,.int .i64 c.slot]:=by
 obtain⟨y0,y1,y2,y3,y4,n,_,hl,h0,h1,h2,h3,h4⟩:=Jr Tryz.underlying32 h
 rw[Q7] at hl
 obtain⟨c0,c1,c2,c3,c4,c5,rfl⟩:=six hl
 simp only[cells3,cells37] at h0 h1 h2 h3 h4
 obtain⟨r,e0,_⟩:=DataW.trod_int Tryz.underlying3 h0
 obtain⟨z0,z1,m,_,_,k0,k1⟩:=trod_struct2 Tryz.underlying30 h1
 simp only[cells3] at k0 k1
 obtain⟨a,e1,_⟩:=DataW.trod_int Tryz.underlying3 k0
 obtain⟨b,e2,_⟩:=DataW.trod_int Tryz.underlying3 k1
 obtain⟨u,e3,_⟩:=DataW.trod_int Tryz.underlying3 h2
 obtain⟨i,e4,_⟩:=DataW.trod_int Tryz.underlying3 h3
 obtain⟨nx,e5,_⟩:=DataW.trod_int Tryz.underlying3 h4
 simp at e0 e1 e2 e3 e4 e5
 subst e0 e1 e2 e3 e4 e5
 exact⟨⟨r,a,b,u,i,nx⟩,rfl⟩
theorem Wx{P:Program}{base:Nat}{spare:Nat->Bool}{held:Bool}{t:TypeId}{f0 f1 f2 f3 f4 f5 f6 f7 f8:Field}{fuel:Nat}{cs:List Value}{x:DataW H × List MemPlace}(ht:P.underlying t=some (.struct #[f0,f1,f2,f3,f4,f5,f6,f7,f8]))(h:DataW.trod enc P w base spare held fuel t cs=some x) :
  ∃ y0 y1 y2 y3 y4 y5 y6 y7 y8 n,x.1=.agg [y0.1,y1.1,y2.1,y3.1,y4.1,y5.1,y6.1,y7.1,y8.1]/\cs.length=P.cellsOf t/\DataW.trod enc P w base spare held n f0.type ((cs.drop f0.offset).take (P.cellsOf f0.type))=some y0 /\
   DataW.trod enc P w base spare held n f1.type ((cs.drop f1.offset).take (P.cellsOf f1.type))=some y1/\DataW.trod enc P w base spare held n f2.type ((cs.drop f2.offset).take (P.cellsOf f2.type))=some y2 /\
   DataW.trod enc P w base spare held n f3.type ((cs.drop f3.offset).take (P.cellsOf f3.type))=some y3/\DataW.trod enc P w base spare held n f4.type ((cs.drop f4.offset).take (P.cellsOf f4.type))=some y4 /\
   DataW.trod enc P w base spare held n f5.type ((cs.drop f5.offset).take (P.cellsOf f5.type))=some y5/\DataW.trod enc P w base spare held n f6.type ((cs.drop f6.offset).take (P.cellsOf f6.type))=some y6 /\
   DataW.trod enc P w base spare held n f7.type ((cs.drop f7.offset).take (P.cellsOf f7.type))=some y7/\DataW.trod enc P w base spare held n f8.type ((cs.drop f8.offset).take (P.cellsOf f8.type))=some y8:=by
 obtain⟨xs,n,_,rfl,hl,hlen,hf⟩:=DataW.trod_struct ht h
 match xs,hlen with
 | [y0,y1,y2,y3,y4,y5,y6,y7,y8],_=>exact⟨y0,y1,y2,y3,y4,y5,y6,y7,y8,n,by simp,hl,by simpa using hf 0 f0 rfl,by simpa using hf 1 f1 rfl,by simpa using hf 2 f2 rfl,by simpa using hf 3 f3 rfl,by simpa using hf 4 f4 rfl,by simpa using hf 5 f5 rfl,by simpa using hf 6 f6 rfl,by simpa using hf 7 f7 rfl,by simpa using hf 8 f8 rfl⟩
theorem a3p{fuel:Nat}{cs:List Value}{x:DataW H × List MemPlace}(h:DataW.trod enc Tryz.prog w 0 (fun _=>true) true fuel 30 cs=some x):∃ p:Int × Int,cs=[.int .i64 p.1,.int .i64 p.2]:=by
 obtain⟨z0,z1,m,_,hl,k0,k1⟩:=trod_struct2 Tryz.underlying30 h
 rw[cells37] at hl
 match cs,hl with
 | [c0,c1],_ =>
  simp only[cells3] at k0 k1
  obtain⟨a,e1,_⟩:=DataW.trod_int Tryz.underlying3 k0
  obtain⟨b,e2,_⟩:=DataW.trod_int Tryz.underlying3 k1
  simp at e1 e2
  subst e1 e2
  exact⟨(a,b),rfl⟩
theorem a3q{fuel:Nat}{c:Value}{x:DataW H × List MemPlace}(h:DataW.trod enc Tryz.prog w 0 (fun _=>true) true fuel 45 [c]=some x)(hz:∀ n∈x.1.weights Tryz.prog 45,n<=reachBytes) :
  ∃ l ao cap,c=.slice ao l.length cap/\KRow w ao cap l:=by
 rcases open_slice Tryz.underlying45 h with ⟨e,-⟩|⟨a,len,cap,m,n,D,Pl,e,hb,hl,hm,hmm,hx,hc⟩
 ·simp at e
  exact⟨[],none,0,e,Nat.zero_le _,by decide,fun _=>rfl,.inl rfl⟩
 ·simp at e hmm
  subst e hmm
  rw[cells37] at hc
  obtain⟨S,hS⟩:=@choose_lt (Int × Int) ⟨(0,0)⟩ len (fun i s=>w.cells? 0 (a.add (i*2)) 2=some [.int .i64 s.1,.int .i64 s.2]) (fun i hi=>by
   obtain⟨cs',h1,h2⟩:=hc i (by omega)
   obtain⟨s,rfl⟩:=a3p h2
   exact⟨s,h1⟩)
  have hlt:((List.range len).map S).length=len:=by simp
  refine⟨(List.range len).map S,some a,m,by rw[hlt],by omega,?_,(fun h=>by cases h),?_⟩
  ·rw[hx] at hz
   have:=hz ((len+(m - len))*16) (by simp[DataW.weights,Tryz.underlying45,bytesKey])
   unfold reachBytes at this
   rw[hlt]
   omega
  ·by_cases h0:len=0
   ·left;omega
   ·right
    obtain⟨b,off,spot⟩:=a
    have hspot:spot=none:=by
     have:=(World.cells?_some (hS 0 (by omega))).2.2 0 (by omega)
     simpa [Addr.add] using World.cell?_spot this
    subst hspot
    refine⟨b,off,rfl,fun i hi=>?_⟩
    have hi':i<len:=by simpa using hi
    have k:∀ q,q<2->w.cell? ⟨b,off+i*2+q,none⟩=([.int .i64 (S i).1,.int .i64 (S i).2]:List Value)[q]?:=fun q hq=>by
     have:=(World.cells?_some (hS i hi')).2.2 q hq
     rwa [Addr.add_lit,Addr.add_lit] at this
    have e:((List.range len).map S)[i]=S i:=by simp
    rw[e]
    exact⟨k 0 (by omega),k 1 (by omega)⟩
theorem fourteen{cs:List Value}(h:cs.length=14):∃ c0 c1 c2 c3 c4 c5 c6 c7 c8 c9 c10 c11 c12 c13,cs=[c0,c1,c2,c3,c4,c5,c6,c7,c8,c9,c10,c11,c12,c13]:=by
 match cs,h with
 | [c0,c1,c2,c3,c4,c5,c6,c7,c8,c9,c10,c11,c12,c13],_=>exact⟨_,_,_,_,_,_,_,_,_,_,_,_,_,_,rfl⟩
end
end Go.Proofs.YthhgoenomehobaaGreat.mm
