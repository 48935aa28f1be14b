/- Parts. -/
import Derived.Test.YthhgoenomehobaaGreatP11
import Derived.Test.YthhgoenomehobaaGreatP08
import Derived.Test.YthhgoenomehobaaGreatP09
import Derived.Test.YthhgoenomehobaaGreatP06
import Derived.Lib.BufferMore
import Derived.Deep.QuietTactic
import Derived.BigQuiet
import Derived.Lib.QuietBelow
namespace Go.Proofs.YthhgoenomehobaaGreat.mm
set_option maxRecDepth 100000
set_option linter.unusedVariables false
open Go.Value renaming int → O, slice → Y
open Go.IntKind renaming i64 → J
open Go.Proofs.Tryz renaming prog → Pg
open Go renaming World → Wq
open Go.ChangeShapes Go.WideShapes Go.ChangeAt Go.RowKit Go.Joins
set_option maxHeartbeats 3200000
section
open Go.Maps
structure Am(w:Wq)(ao:Option Addr)(cap:Nat)(l:List (Int × Int)):Prop where
 le:l.length<=cap
 max:l.length*16<=140737488351232
 nil:ao=none->cap=0
 at_:l.length=0\/∃ b o,ao=some ⟨b,o,none⟩/\∀ i (h:i<l.length),w.cell? ⟨b,o+i*2,none⟩=some (O J l[i].1)/\w.cell? ⟨b,o+i*2+1,none⟩=some (O J l[i].2)
theorem Am.below{w w':Wq}{ao:Option Addr}{cap:Nat}{l:List (Int × Int)}(r:Am w ao cap l)(hb:Below w.heap.size w w'):Am w' ao cap l:=by
 refine⟨r.le,r.max,r.nil,?_⟩
 rcases r.at_ with h|⟨b,o,h,hc⟩
 ·exact .inl h
 ·refine .inr ⟨b,o,h,fun i hi=>?_⟩
  obtain⟨c0,c1⟩:=hc i hi
  have lt:=cell_lt c0
  obtain⟨q,_⟩:=Bv hb
  exact⟨(q _ _ lt).trans c0,(q _ _ lt).trans c1⟩
theorem Ky(w:Wq):Am w none 0 []:=⟨by decide,by decide,fun _=>rfl,.inl rfl⟩
def F6(l:List (Int × Int)):List Value:=l.flatMap fun p=>[O J p.1,O J p.2]
theorem Xg(p:Int × Int)(l:List (Int × Int)):F6 (p :: l)=[O J p.1,O J p.2] ++ F6 l:=by simp[F6]
theorem Kw(l:List (Int × Int)):(F6 l).length=l.length*2:=by
 induction l with
 | nil=>rfl
 | cons s l ih=>rw[Xg,List.length_append,ih];simp;omega
theorem Yv(l:List (Int × Int))(i q:Nat)(h:i<l.length)(hq:q<2):(F6 l)[i*2+q]?=([O J l[i].1,O J l[i].2]:List Value)[q]?:=by
 induction l generalizing i with
 | nil=>simp at h
 | cons s l ih =>
  rw[Xg]
  match i with
  | 0 =>
   rw[List.getElem?_append_left (by simp;omega)]
   simp
  | i+1 =>
   rw[List.getElem?_append_right (by simp;omega)]
   rw[show ([O J s.1,O J s.2]:List Value).length=2 from rfl,show (i+1)*2+q - 2=i*2+q by omega,ih i (by simpa using h)]
   simp
theorem Ux(l:List (Int × Int)):∀ u∈F6 l,u.oneCell'=true:=by
 intro u hu
 simp only[F6,List.mem_flatMap,List.mem_cons,List.not_mem_nil,or_false] at hu
 obtain⟨s,_,h|h⟩:=hu <;> (subst h;rfl)
theorem Am.src{w:Wq}{ao:Option Addr}{cap:Nat}{l:List (Int × Int)}(r:Am w ao cap l):∀ ad,ao=some ad->∀ j u,(F6 l)[j]?=some u->w.cell? (ad.add j)=some u:=by
 rintro ad rfl j u hu
 have hj:j<l.length*2:=by
  rw[<- Kw]
  exact(List.getElem?_eq_some_iff.1 hu).1
 rcases r.at_ with h0|⟨b,o,e,hc⟩
 ·omega
 cases e
 have hi:j / 2<l.length:=by omega
 have e2:j / 2*2+j % 2=j:=by omega
 have hq:j % 2<2:=by omega
 obtain⟨c0,c1⟩:=hc (j / 2) hi
 rw[<- e2,Yv l _ _ hi hq] at hu
 rw[Addr.add_lit,<- e2]
 generalize j / 2=i at *
 generalize j % 2=q at *
 rw[<- Nat.add_assoc]
 match q,hq with
 | 0,_=>simp at hu;subst hu;exact c0
 | 1,_=>simp at hu;subst hu;exact c1
theorem Am.own{w:Wq}{lo n cap:Nat}{ao:Option Addr}{l:List (Int × Int)}(h:w.ownsRow lo 30 2 (Y ao n cap) n (F6 l))(hm:l.length*16<=140737488351232):Am w ao cap l:=by
 have hl:=h.1
 rw[Kw] at hl
 have hn:l.length=n:=by omega
 subst hn
 rcases h.2 with ⟨hv,h0⟩|⟨g,cap',cur,hv,hg,hb,hc,-,hs,ht⟩
 ·injection hv with h1 _ h3
  subst h1 h3
  exact⟨by omega,hm,fun _=>rfl,.inl h0⟩
 ·injection hv with h1 _ h3
  subst h1 h3
  refine⟨hc,hm,(fun h=>by cases h),.inr ⟨g,0,rfl,fun i hi=>?_⟩⟩
  have e:∀ q,q<2->w.cell? ⟨g,0+i*2+q,none⟩=([O J l[i].1,O J l[i].2]:List Value)[q]?:=fun q hq=>by
   rw[Nat.zero_add,h.cellAt _ (by omega),Yv l i q hi hq]
  exact⟨e 0 (by omega),e 1 (by omega)⟩
theorem Am.hi{w w':Wq}{ao:Option Addr}{cap lo:Nat}{l:List (Int × Int)}(r:Am w ao cap l)(hi:∀ ad,ao=some ad->lo<=ad.block)(hk:∀ k,lo<=k->w'.heap[k]?=w.heap[k]?):Am w' ao cap l:=by
 refine⟨r.le,r.max,r.nil,?_⟩
 rcases r.at_ with h|⟨b,o,h,hc⟩
 ·exact .inl h
 ·refine .inr ⟨b,o,h,fun i hi'=>?_⟩
  have hb:=hk b (hi _ h)
  rw[World.cell?_of_block (a:=⟨b,o+i*2,none⟩) hb,World.cell?_of_block (a:=⟨b,o+i*2+1,none⟩) hb]
  exact hc i hi'
theorem iK:(Pg.info? 30).map (fun i=>(i.zero,i.size,i.bytes))=some (some (.agg #[O J 0,O J 0]),2,16):=by kernel_rfl
theorem Vh(ad:Addr)(cap:Nat)(l:List (Int × Int))(w:Wq)(r:Am w (some ad) cap l) :
  Calls Pg 104 #[Y (some ad) l.length cap] w fun e w'=>e=.returned (Y (some ⟨w.heap.size,0,none⟩) l.length l.length)/\w'.ownsRow w.heap.size 30 2 (Y (some ⟨w.heap.size,0,none⟩) l.length l.length) l.length (F6 l)/\Below w.heap.size w w':=by
 obtain⟨i0,hi,hz0,hz1,hz2⟩:=info_parts iK
 have m1:=r.max
 have m2:=r.le
 have HS:Hid _:=r.src
 have HN:Hid _:=r.nil
 clear r
 have q49:∀ (w:Wq) (a:Option Addr) (n c:Nat),(binOp .eql 45 (Y a n c) (Y none 0 0)).run Pg w=.ok (.bool a.isNone) w:=fun w a n c=>Lib.run_eql_slice_nil w _ _ a n c 0 0 Tryz.underlying45
 go_enter Tryz.func104,Tryz.ntmps104
 go_wp2_with (first
  | (at_make;refine wpList_make_own _ rfl _ _ 45 rfl w.heap.size 30 i0 (.agg #[O J 0,O J 0]) 2 Tryz.underlying45 hi hz0 hz1 .i64 .i64 _ l.length rfl rfl rfl (by rw[hz2];omega) (by unfold maxLen;omega) (Nat.le_refl _) ?_;intro w1 hown hgrow)
  | (at_builtin;refine wpList_append_fits_any _ rfl _ _ 45 rfl w.heap.size 30 i0 2 Tryz.underlying45 hi hz1 w.heap.size 0 l.length _ rfl hown (some ad) l.length cap (F6 l) rfl (Kw l) (fun h=>by have:=HN.out h;omega) (fun ad h j u hj=>hgrow.cell (HS.out ad h j u hj) (by intro hh;cases hh)) (Ux l) (by omega) ?_;intro w2 hown2 hgrow2))
 go_ret
 simp only[Nat.zero_add,List.nil_append] at hown2
 refine⟨by simp,hown2,?_⟩
 have:=((Below.refl w.heap.size w).grown hgrow (Nat.le_refl _) (fun k h=>by cases h))
 exact this.grown hgrow2 hgrow.size (fun k h=>by cases h;exact Nat.le_refl _)
theorem Vg(w:Wq):Calls Pg 104 #[Y none 0 0] w fun e w'=>e=.returned (Y none 0 0)/\w=w':=by
 have q49:∀ (w:Wq) (a:Option Addr) (n c:Nat),(binOp .eql 45 (Y a n c) (Y none 0 0)).run Pg w=.ok (.bool a.isNone) w:=fun w a n c=>Lib.run_eql_slice_nil w _ _ a n c 0 0 Tryz.underlying45
 go_enter Tryz.func104,Tryz.ntmps104
 go_wp2
 go_ret
 exact⟨rfl,rfl⟩
theorem a4w(ao:Option Addr)(cap:Nat)(l:List (Int × Int))(w:Wq)(r:Am w ao cap l) :
  Calls Pg 104 #[Y ao l.length cap] w fun e w'=>∃ a c,e=.returned (Y a l.length c)/\Am w' a c l/\(∀ ad,a=some ad->w.heap.size<=ad.block)/\Below w.heap.size w w':=by
 cases ao with
 | some ad =>
  refine(Vh ad cap l w r).mono ?_
  rintro e w' ⟨rfl,h1,h2⟩
  exact⟨_,_,rfl,Am.own h1 r.max,b1b (Nat.le_refl _),h2⟩
 | none =>
  have hc:=r.nil rfl
  have hl:l=[]:=List.eq_nil_of_length_eq_zero (by have:=r.le;omega)
  subst hc hl
  refine(Vg w).mono ?_
  rintro e w' ⟨rfl,rfl⟩
  exact⟨_,_,rfl,Ky _,(fun _ h=>by cases h),Below.refl _ _⟩
theorem Tc(c:Cl)(w:Wq):Calls Pg 144 #[.agg #[O J c.kind,O J c.a,O J c.b,O J c.time,O J c.bk,O J c.slot]] w fun e w'=>e=.returned (.agg #[O J (Cm c).c.kind,O J (Cm c).c.a,O J (Cm c).c.b,O J (Cm c).c.time,O J (Cm c).c.bk,O J (Cm c).c.slot,O J (Cm c).pl,O J (Cm c).cur,O J (Cm c).prev,O J (Cm c).slot,O J (Cm c).n,Y none (Cm c).keys.length 0,.bool (Cm c).done,O J (Cm c).e])/\Below w.heap.size w w':=by
 go_enter Tryz.func144,Tryz.ntmps144
 go_wp2
 refine bodyPost_ret (v:=.agg #[O J (Cm c).c.kind,O J (Cm c).c.a,O J (Cm c).c.b,O J (Cm c).c.time,O J (Cm c).c.bk,O J (Cm c).c.slot,O J (Cm c).pl,O J (Cm c).cur,O J (Cm c).prev,O J (Cm c).slot,O J (Cm c).n,Y none (Cm c).keys.length 0,.bool (Cm c).done,O J (Cm c).e]) (by simp[results,Tryz.results144,go_sem,Cm]) rfl ⟨rfl,?_⟩
 repeat (first|exact Below.refl _ _|refine Below.alloc ?_ (by simp <;> omega) _|refine Below.setCell ?_ (by simp <;> omega) _)
theorem a7k(f:Fr)(e0:Int)(aK:Option Addr)(cK:Nat)(w:Wq)(r:Am w aK cK f.keys) :
  Calls Pg 199 #[.agg #[O J f.c.kind,O J f.c.a,O J f.c.b,O J f.c.time,O J f.c.bk,O J f.c.slot,O J f.pl,O J f.cur,O J f.prev,O J f.slot,O J f.n,Y aK f.keys.length cK,.bool f.done,O J f.e],O J e0] w fun e w'=>∃ a c,e=.returned (.agg #[O J (Ag f e0).c.kind,O J (Ag f e0).c.a,O J (Ag f e0).c.b,O J (Ag f e0).c.time,O J (Ag f e0).c.bk,O J (Ag f e0).c.slot,O J (Ag f e0).pl,O J (Ag f e0).cur,O J (Ag f e0).prev,O J (Ag f e0).slot,O J (Ag f e0).n,Y a (Ag f e0).keys.length c,.bool (Ag f e0).done,O J (Ag f e0).e])/\Am w' a c f.keys/\(∀ ad,a=some ad->w.heap.size<=ad.block)/\Below w.heap.size w w':=by
 obtain⟨of,hof⟩:=frObj f aK cK
 obtain⟨oz,hoz⟩:∃ o:Obj,o=.cells #[O J 0,O J 0,O J 0,O J 0,O J 0,O J 0,O J 0,O J 0,O J 0,O J 0,O J 0,Y none 0 0,.bool false,O J 0] 47:=⟨_,rfl⟩
 have HE0:Hid (Env w ((w.alloc of).alloc oz) _ []):=((⟨Below.refl _ _,(fun p hp=>by cases hp),(fun p hp=>by cases hp)⟩:Env w w [] []).alloc of).alloc oz
 rw[show (w.alloc of).heap.size=w.heap.size+1 by simp] at HE0
 have HR:Hid (Am w aK cK f.keys):=r
 clear r
 go_enter Tryz.func199,Tryz.ntmps199
 go_wp2_with fail
 rw[<- hof,<- hoz]
 generalize (w.alloc of).alloc oz=W0 at *
 subst hof hoz
 refine(a4w aK cK f.keys W0 (HR.out.below HE0.out.bl)).mono ?_
 rintro e w1 ⟨a1,c1,rfl,hr1,hi1,hb1⟩
 have HE1:Hid _:=HE0.out.below hb1
 have HR1:Hid (Am w1 a1 c1 f.keys):=hr1
 have HHi:Hid (∀ ad,a1=some ad->w.heap.size+2<=ad.block):=fun ad h=>Nat.le_trans (HE0.out.lt (.head _)) (hi1 ad h)
 clear HE0 hb1 hr1 hi1
 have hbz:=HE1.out.box _ (.head _)
 have hbf:=HE1.out.box _ (.tail _ (.head _))
 obtain⟨f0,f1,f2,f3,f4,f5,f6,f7,f8,f9,f10,f11,f12,f13,ff,fs⟩:=A8 hbf
 obtain⟨g0,g1,g2,g3,g4,g5,g6,g7,g8,g9,g10,g11,g12,g13,gf,gs⟩:=A8 hbz
 have hne:w.heap.size+1≠w.heap.size:=by omega
 have HBl:Hid (Below w.heap.size w w1):=HE1.out.bl
 clear hbz hbf HE1
 go_wp2
 refine bodyPost_ret (v:=.agg #[O J (Ag f e0).c.kind,O J (Ag f e0).c.a,O J (Ag f e0).c.b,O J (Ag f e0).c.time,O J (Ag f e0).c.bk,O J (Ag f e0).c.slot,O J (Ag f e0).pl,O J (Ag f e0).cur,O J (Ag f e0).prev,O J (Ag f e0).slot,O J (Ag f e0).n,Y a1 (Ag f e0).keys.length c1,.bool (Ag f e0).done,O J (Ag f e0).e]) (by simp[results,Tryz.results199,go_sem,Ag,g0,g1,g2,g3,g4,g5,g6,g7,g8,g9,g10,g11,g12,g13]) rfl ⟨a1,c1,rfl,HR1.out.hi HHi.out (fun k hk=>?_),(fun ad h=>Nat.le_trans (Nat.le_add_right _ 2) (HHi.out ad h)),?_⟩
 ·repeat rw[Below.heap_setCell _ _ _ _ (by dsimp only;omega)]
 ·iterate 17 (refine Below.setCell ?_ (by dsimp only;omega) _)
  exact HBl.out
theorem Z4(a1 a2:Option Addr)(c1 c2:Nat)(l:List (Int × Int))(w:Wq)(r1:Am w a1 c1 l)(r2:Am w a2 c2 l) :
  Calls Pg 54 #[Y a1 l.length c1,Y a2 l.length c2] w fun e w'=>e=.returned (.bool true)/\Below w.heap.size w w':=by
 have m1:=r1.max
 have n1:l.length<=9223372036854775807:=by omega
 have HZ1:Hid _:=r1.at_
 have HZ2:Hid _:=r2.at_
 clear r1 r2
 go_enter Tryz.func54,Tryz.ntmps54
 go_wp2
 go_loopw [13] (fun i wr=>∃ k q:Nat,k<=l.length/\i=O J k/\wr=w.drewN q) (fun i _=>l.length - (intOf i).toNat)
 case atStart=>exact⟨0,0,Nat.zero_le _,rfl,rfl⟩
 case round =>
  obtain⟨k,q,hk,rfl,rfl⟩:=hrel
  by_cases hlt:k<l.length
  ·rcases HZ1.out with h0|⟨b1,o1,rfl,hc1⟩
   ·omega
   rcases HZ2.out with h0|⟨b2,o2,rfl,hc2⟩
   ·omega
   obtain⟨x0,x1⟩:=hc1 k hlt
   obtain⟨y0,y1⟩:=hc2 k hlt
   rw[<- World.cell?_drewN (n:=q)] at x0 x1 y0 y1
   clear hc1 hc2
   generalize hwq:w.drewN q=wq at x0 x1 y0 y1 ⊢
   have HWQ:Hid _:=hwq
   clear hwq
   generalize l[k].1=xa at x0 y0
   generalize l[k].2=xb at x1 y1
   have se:∀ W:Wq,(Op.equalIn 10000 30 (.agg #[O J xa,O J xb]) (.agg #[O J xa,O J xb])).run Pg W=.ok true W:=fun W=>by rw[a7w];simp
   go_wp2_with fail
   go_quiet (fail)
   go_wp2
   go_roundw
   case rel=>exact⟨k+1,q+nq,by omega,by go_num,by rw[<- HWQ.out,World.drewN_drewN]⟩
   case measure=>simp[intOf];omega
  ·go_wp2
   go_ret
   exact⟨rfl,below_draws _ _ _⟩
theorem b3d(c:Cl)(w:Wq):(Op.equalIn 10000 32 (.agg #[O J c.kind,O J c.a,O J c.b,O J c.time,O J c.bk,O J c.slot]) (.agg #[O J c.kind,O J c.a,O J c.b,O J c.time,O J c.bk,O J c.slot])).run Pg w=.ok true w:=by
 have u3:=Tryz.underlying3
 have a3:=Tryz.isAgg3
 have z3:=Tryz.sizeOf3
 have a37:=Tryz.isAgg30
 have z37:=Tryz.sizeOf30
 have k9:=a3e
 have hS:Pg.underlying 32=some (.struct (Pg.fieldsOf 32)):=by kernel_rfl
 have hp:Pg.stoodInHeld 32=false:=by kernel_rfl
 rw[show (10000:Nat)=9999+1 from rfl,run_equalIn_agg w 9999 32 _ _ hS hp]
 simp only[Program.fieldsOf,Tryz.underlying32]
 clear hS
 go_simp
theorem Zr(f:Fr)(aK aK':Option Addr)(cK cK':Nat)(w:Wq)(r:Am w aK cK f.keys)(r':Am w aK' cK' f.keys) :
  Calls Pg 23 #[.agg #[O J f.c.kind,O J f.c.a,O J f.c.b,O J f.c.time,O J f.c.bk,O J f.c.slot,O J f.pl,O J f.cur,O J f.prev,O J f.slot,O J f.n,Y aK f.keys.length cK,.bool f.done,O J f.e],.agg #[O J f.c.kind,O J f.c.a,O J f.c.b,O J f.c.time,O J f.c.bk,O J f.c.slot,O J f.pl,O J f.cur,O J f.prev,O J f.slot,O J f.n,Y aK' f.keys.length cK',.bool f.done,O J f.e]] w fun e w'=>e=.returned (.bool true)/\Below w.heap.size w w':=by
 obtain⟨of,hof⟩:=frObj f aK cK
 obtain⟨oz,hoz⟩:∃ o:Obj,o=.cells #[O J f.c.kind,O J f.c.a,O J f.c.b,O J f.c.time,O J f.c.bk,O J f.c.slot,O J f.pl,O J f.cur,O J f.prev,O J f.slot,O J f.n,Y aK' f.keys.length cK',.bool f.done,O J f.e] 47:=⟨_,rfl⟩
 have HE0:Hid (Env w ((w.alloc of).alloc oz) _ []):=((⟨Below.refl _ _,(fun p hp=>by cases hp),(fun p hp=>by cases hp)⟩:Env w w [] []).alloc of).alloc oz
 rw[show (w.alloc of).heap.size=w.heap.size+1 by simp] at HE0
 have HR:Hid (Am w aK cK f.keys):=r
 have HR':Hid (Am w aK' cK' f.keys):=r'
 clear r r'
 have ce:=b3d f.c
 go_enter Tryz.func23,Tryz.ntmps23
 go_wp2_with fail
 rw[<- hof,<- hoz]
 generalize (w.alloc of).alloc oz=W0 at *
 subst hof hoz
 refine(Z4 aK aK' cK cK' f.keys W0 (HR.out.below HE0.out.bl) (HR'.out.below HE0.out.bl)).mono ?_
 rintro e w1 ⟨rfl,hb1⟩
 have HE1:Hid _:=HE0.out.below hb1
 clear HE0 hb1
 obtain⟨f0,f1,f2,f3,f4,f5,f6,f7,f8,f9,f10,f11,f12,f13,-,fs⟩:=A8 (HE1.out.box _ (.tail _ (.head _)))
 obtain⟨g0,g1,g2,g3,g4,g5,g6,g7,g8,g9,g10,g11,g12,g13,-,gs⟩:=A8 (HE1.out.box _ (.head _))
 go_wp2
 go_ret
 exact⟨rfl,HE1.out.bl⟩
theorem Yn(a b:Int)(n:Nat)(w:Wq)(hk:E5 a b=true)(hn:n<1\/4<n)(hm:n<=9223372036854775807) :
  Calls Pg 49 #[.agg #[O J a,O J b],O J n] w fun e w'=>e=.returned (.tuple #[O J 0,O J 3])/\Below w.heap.size w w':=by
 have HK:Hid (E5 a b=true):=hk
 clear hk
 rcases hn with h|h
 ·obtain rfl:n=0:=by omega
  go_enter Tryz.func49,Tryz.ntmps49
  go_wp2_with (first|(go_at_call 96;refine(O0 _ _ _ HK.out).mono ?_;rintro e w1 ⟨rfl,hb1⟩))
  go_ret2
  exact⟨rfl,((Below.refl _ _).alloc (Nat.le_refl _) _).trans (hb1.mono (by simp))⟩
 ·have h1:(1:Int)<=n:=by omega
  have h4:(4:Int)<n:=by omega
  go_enter Tryz.func49,Tryz.ntmps49
  go_wp2_with (first|(go_at_call 96;refine(O0 _ _ _ HK.out).mono ?_;rintro e w1 ⟨rfl,hb1⟩))
  go_ret2
  exact⟨rfl,((Below.refl _ _).alloc (Nat.le_refl _) _).trans (hb1.mono (by simp))⟩
def bkK(a b:Int)(n:Nat):Int:=if E5 a b then (if 1<=n/\n<=4 then Eo a b n else 0) else 0
theorem a0o(a b:Int)(n:Nat)(w:Wq)(hm:n<=9223372036854775807) :
  Calls Pg 49 #[.agg #[O J a,O J b],O J n] w fun e w'=>∃ x:Int,e=.returned (.tuple #[O J (bkK a b n),O J x])/\Below w.heap.size w w':=by
 cases hk:E5 a b
 ·refine(a0p a b n w hk).mono ?_
  rintro e w1 ⟨rfl,hb⟩
  exact⟨3,by unfold bkK;rw[hk];rfl,hb⟩
 ·by_cases hn:1<=n/\n<=4
  ·refine(X7 a b n w hk hn.1 hn.2).mono ?_
   rintro e w1 ⟨rfl,hb⟩
   exact⟨0,by unfold bkK;rw[hk,if_pos rfl,if_pos hn],hb⟩
  ·refine(Yn a b n w hk (by omega) hm).mono ?_
   rintro e w1 ⟨rfl,hb⟩
   exact⟨3,by unfold bkK;rw[hk,if_pos rfl,if_neg hn],hb⟩
theorem Qj{nH:Nat}{c:Cl}(h:c.kind=4\/c.kind=5):Ey nH c=c.bk:=by unfold Ey;rw[if_pos h]
theorem Ym{nH:Nat}{c:Cl}(h:¬ (c.kind=4\/c.kind=5)):Ey nH c=bkK c.a c.b nH:=by unfold Ey bkK;rw[if_neg h]
theorem F8(aS aH aF aL:Option Addr)(nS nH nF nL cS cH cF cL:Nat)(now:Int)(c:Cl)(w:Wq)(hh:nH<=9223372036854775807) :
  Calls Pg 34 #[.agg #[Y aS nS cS,Y aH nH cH,Y aF nF cF,Y aL nL cL,O J now],.agg #[O J c.kind,O J c.a,O J c.b,O J c.time,O J c.bk,O J c.slot]] w fun e w'=>e=.returned (O J (Ey nH c))/\Below w.heap.size w w':=by
 have b0:Below w.heap.size w ((w.alloc (.cells #[Y aS nS cS,Y aH nH cH,Y aF nF cF,Y aL nL cL,O J now] 25)).alloc (.cells #[O J c.kind,O J c.a,O J c.b,O J c.time,O J c.bk,O J c.slot] 32)):=below_alloc2 w _ _
 have hc:=fun W=>a0o c.a c.b nH W hh
 obtain⟨E0,hE0⟩:∃ x,x=Ey nH c:=⟨_,rfl⟩
 rw[<- hE0]
 have HE0:Hid (E0=Ey nH c):=hE0
 clear hE0
 by_cases h4:c.kind=4
 ·have HV:Hid (E0=c.bk):=HE0.out.trans (Qj (.inl h4))
  rw[h4] at b0 ⊢
  go_enter Tryz.func34,Tryz.ntmps34
  go_wp2
  go_ret
  exact⟨by rw[HV.out];rfl,b0⟩
 by_cases h5:c.kind=5
 ·have HV:Hid (E0=c.bk):=HE0.out.trans (Qj (.inr h5))
  rw[h5] at b0 ⊢
  go_enter Tryz.func34,Tryz.ntmps34
  go_wp2
  go_ret
  exact⟨by rw[HV.out];rfl,b0⟩
 have e4:(c.kind==4)=false:=by rw[beq_eq_false_iff_ne];exact h4
 have e5:(c.kind==5)=false:=by rw[beq_eq_false_iff_ne];exact h5
 have HV:Hid (E0=bkK c.a c.b nH):=HE0.out.trans (Ym (by omega))
 generalize bkK c.a c.b nH=bv at *
 clear h4 h5 HE0
 go_enter Tryz.func34,Tryz.ntmps34
 go_wp2_with (go_at_call 49;refine(hc _).mono ?_;rintro e w1 ⟨x1,rfl,hb1⟩)
 go_ret
 exact⟨by rw[HV.out];rfl,b0.trans (hb1.mono b0.size)⟩
theorem Hf(aS aH aF aL:Option Addr)(nS nH nF nL cS cH cF cL:Nat)(now:Int)(c:Cl)(w:Wq)(hh:nH<=9223372036854775807) :
  Calls Pg 113 #[.agg #[Y aS nS cS,Y aH nH cH,Y aF nF cF,Y aL nL cL,O J now],.agg #[O J c.kind,O J c.a,O J c.b,O J c.time,O J c.bk,O J c.slot]] w fun e w'=>e=.returned (O J (Ey nH c))/\Below w.heap.size w w':=by
 obtain⟨om,hom⟩:∃ o:Obj,o=.cells #[Y aS nS cS,Y aH nH cH,Y aF nF cF,Y aL nL cL,O J now] 25:=⟨_,rfl⟩
 obtain⟨oc,hoc⟩:∃ o:Obj,o=.cells #[O J c.kind,O J c.a,O J c.b,O J c.time,O J c.bk,O J c.slot] 32:=⟨_,rfl⟩
 have HE:Hid (Env w ((w.alloc om).alloc oc) _ []):=((⟨Below.refl _ _,(fun p hp=>by cases hp),(fun p hp=>by cases hp)⟩:Env w w [] []).alloc om).alloc oc
 rw[show (w.alloc om).heap.size=w.heap.size+1 by simp] at HE
 obtain⟨E0,hE0⟩:∃ x,x=Ey nH c:=⟨_,rfl⟩
 rw[<- hE0]
 have HE0:Hid (E0=Ey nH c):=hE0
 clear hE0
 by_cases h4:c.kind=4
 ·have HV:Hid (E0=c.bk):=HE0.out.trans (Qj (.inl h4))
  subst hom hoc
  rw[h4] at HE ⊢
  go_enter Tryz.func113,Tryz.ntmps113
  go_wp2
  go_ret
  exact⟨by rw[HV.out];rfl,HE.out.bl⟩
 by_cases h5:c.kind=5
 ·have HV:Hid (E0=c.bk):=HE0.out.trans (Qj (.inr h5))
  subst hom hoc
  rw[h5] at HE ⊢
  go_enter Tryz.func113,Tryz.ntmps113
  go_wp2
  go_ret
  exact⟨by rw[HV.out];rfl,HE.out.bl⟩
 have e4:(c.kind==4)=false:=by rw[beq_eq_false_iff_ne];exact h4
 have e5:(c.kind==5)=false:=by rw[beq_eq_false_iff_ne];exact h5
 have HV:Hid (E0=bkK c.a c.b nH):=HE0.out.trans (Ym (by omega))
 clear h4 h5 HE0
 have hk:∀ W:Wq,Calls Pg 109 #[.agg #[O J c.a,O J c.b]] W fun e w'=>e=.returned (.bool (E5 c.a c.b))/\Below W.heap.size W w':=fun W=>Su c.a c.b W
 cases hK:E5 c.a c.b
 ·rw[hK] at hk
  have HV0:Hid (E0=0):=HV.out.trans (by unfold bkK;rw[hK];rfl)
  go_enter Tryz.func113,Tryz.ntmps113
  go_wp2_with fail
  rw[<- hom,<- hoc]
  generalize (w.alloc om).alloc oc=W0 at *
  subst hom hoc
  refine(hk W0).mono ?_
  rintro e w1 ⟨rfl,hb1⟩
  have HE1:Hid _:=HE.out.below hb1
  clear HE hb1
  go_wp2
  go_ret
  exact⟨by rw[HV0.out];rfl,HE1.out.bl⟩
 rw[hK] at hk
 go_enter Tryz.func113,Tryz.ntmps113
 go_wp2_with fail
 rw[<- hom,<- hoc]
 generalize (w.alloc om).alloc oc=W0 at *
 subst hom hoc
 refine(hk W0).mono ?_
 rintro e w1 ⟨rfl,hb1⟩
 have HE1:Hid _:=HE.out.below hb1
 clear HE hb1
 obtain⟨q0,q1,q2,q3,q4,-,-,-,-,-,qs⟩:=Af (HE1.out.box _ (.tail _ (.head _)))
 obtain⟨c0,c1,c2,c3,c4,c5,cs⟩:=b2x (HE1.out.box _ (.head _))
 by_cases hn1:nH<1
 ·obtain rfl:nH=0:=by omega
  have HV0:Hid (E0=0):=HV.out.trans (by unfold bkK;rw[hK,if_pos rfl,if_neg (by omega)])
  go_wp2
  go_ret
  exact⟨by rw[HV0.out];rfl,HE1.out.bl⟩
 by_cases hn4:4<nH
 ·have i1:(1:Int)<=nH:=by omega
  have i4:(4:Int)<nH:=by omega
  have HV0:Hid (E0=0):=HV.out.trans (by unfold bkK;rw[hK,if_pos rfl,if_neg (by omega)])
  go_wp2
  go_ret
  exact⟨by rw[HV0.out];rfl,HE1.out.bl⟩
 have i1:(1:Int)<=nH:=by omega
 have i4:(nH:Int)<=4:=by omega
 have HV0:Hid (E0=Eo c.a c.b nH):=HV.out.trans (by unfold bkK;rw[hK,if_pos rfl,if_pos (by omega)])
 have hc:=fun W=>Y1 c.a c.b nH W hK (by omega) (by omega)
 generalize Eo c.a c.b nH=bv at *
 go_wp2_with (go_at_call 134;refine(hc _).mono ?_;rintro e w2 ⟨rfl,hb2⟩)
 go_ret
 exact⟨by rw[HV0.out];rfl,HE1.out.bl.trans (hb2.mono HE1.out.bl.size)⟩
end
section
variable {Xb:Ex}
theorem Am.fine{w w':Wq}{Z:Nat->Prop}{ao:Option Addr}{cap:Nat}{l:List (Int × Int)}(r:Am w ao cap l)(hf:Fine w w' Z)(hz:∀ ad,ao=some ad->¬ Z ad.block):Am w' ao cap l:=by
 refine⟨r.le,r.max,r.nil,?_⟩
 rcases r.at_ with h|⟨b,o,e,hc⟩
 ·exact .inl h
 ·refine .inr ⟨b,o,e,fun i hi=>?_⟩
  have hb:b<w.heap.size:=by
   have:=(hc i hi).1
   exact cell_lt this
  have q:∀ x,w'.cell? ⟨b,x,none⟩=w.cell? ⟨b,x,none⟩:=fun x=>World.cell?_of_block (a:=⟨b,x,none⟩) (hf.block b hb (hz _ e))
  rw[q,q]
  exact hc i hi
theorem Gn(f:Fr)(n:Int)(aK:Option Addr)(cK:Nat)(w:Wq) :
  Calls Pg 171 #[.agg #[O J f.c.kind,O J f.c.a,O J f.c.b,O J f.c.time,O J f.c.bk,O J f.c.slot,O J f.pl,O J f.cur,O J f.prev,O J f.slot,O J f.n,Y aK f.keys.length cK,.bool f.done,O J f.e],O J n] w fun e w'=>e=.returned (.agg #[O J (toF f n).c.kind,O J (toF f n).c.a,O J (toF f n).c.b,O J (toF f n).c.time,O J (toF f n).c.bk,O J (toF f n).c.slot,O J (toF f n).pl,O J (toF f n).cur,O J (toF f n).prev,O J (toF f n).slot,O J (toF f n).n,Y aK (toF f n).keys.length cK,.bool (toF f n).done,O J (toF f n).e])/\Below w.heap.size w w':=by
 go_enter Tryz.func171,Tryz.ntmps171
 go_wp2
 refine bodyPost_ret (v:=.agg #[O J (toF f n).c.kind,O J (toF f n).c.a,O J (toF f n).c.b,O J (toF f n).c.time,O J (toF f n).c.bk,O J (toF f n).c.slot,O J (toF f n).pl,O J (toF f n).cur,O J (toF f n).prev,O J (toF f n).slot,O J (toF f n).n,Y aK (toF f n).keys.length cK,.bool (toF f n).done,O J (toF f n).e]) (by simp[results,Tryz.results171,go_sem,toF]) rfl ⟨rfl,?_⟩
 repeat (first|exact Below.refl _ _|refine Below.alloc ?_ (by simp <;> omega) _|refine Below.setCell ?_ (by simp <;> omega) _)
def stN(f:Fr):Int:=if f.cur<=0 then 0 else f.cur - 1
theorem Ea(M:Mm)(f:Fr)(B:Nat)(aS aH aF aL:Option Addr)(cS cH cF cL:Nat)(aK:Option Addr)(cK:Nat)(w:Wq)
  (hB:w.heap[B]?=some (.cells (List.toArray (Y aS M.slots.length cS :: Y aH M.heads.length cH :: Y aF M.free.length cF :: Y aL M.locks.length cL :: O J M.now :: Xb.rs)) Xb.rt (0,0)))
  (hc:f.cur<=1000) (hn:M.slots.length<=1000) :
  Calls Pg 200 #[.pointer (some ⟨B,0,none⟩),.agg #[O J f.c.kind,O J f.c.a,O J f.c.b,O J f.c.time,O J f.c.bk,O J f.c.slot,O J f.pl,O J f.cur,O J f.prev,O J f.slot,O J f.n,Y aK f.keys.length cK,.bool f.done,O J f.e]] w fun e w'=>e=.returned (.tuple #[O J (stN f),.bool (Ej M f)])/\Below w.heap.size w w':=by
 obtain⟨q0,q1,q2,q3,q4,-,-,-,-,-,qs⟩:=Af hB
 clear hB
 by_cases h:f.cur<=0
 ·have e1:stN f=0:=by unfold stN;rw[if_pos h]
  have e2:Ej M f=false:=by
   cases hx:Ej M f
   ·rfl
   ·rw[Es] at hx;omega
  rw[e1,e2]
  go_enter Tryz.func200,Tryz.ntmps200
  go_wp2_with (go_at_call 140;refine(Ot _ _ h).mono ?_;rintro e w1 ⟨rfl,rfl⟩)
  go_ret2
  exact⟨rfl,A7 _ _⟩
 ·have h':0<f.cur:=by omega
  have e1:stN f=f.cur - 1:=by unfold stN;rw[if_neg h]
  have e2:Ej M f=inB (f.cur - 1) 0 ((M.slots.length:Int) - 1):=by
   rw[Bool.eq_iff_iff,Es,Aj]
   omega
  rw[e1,e2]
  have HS:Hid (∀ W:Wq,Calls Pg 111 #[.agg #[Y aS M.slots.length cS,Y aH M.heads.length cH,Y aF M.free.length cF,Y aL M.locks.length cL,O J M.now],O J (f.cur - 1)] W fun e w'=>e=.returned (.bool (inB (f.cur - 1) 0 ((M.slots.length:Int) - 1)))/\Below W.heap.size W w'):=fun W=>Ed aS aH aF aL _ _ _ _ cS cH cF cL M.now (f.cur - 1) W (by omega)
  generalize inB (f.cur - 1) 0 ((M.slots.length:Int) - 1)=r at *
  clear e1 e2 hn
  go_enter Tryz.func200,Tryz.ntmps200
  go_wp2_with (first|(go_at_call 140;refine(Oq _ _ h' hc).mono ?_;rintro e w1 ⟨rfl,rfl⟩)|(go_at_call 111;refine(HS.out _).mono ?_;rintro e w2 ⟨rfl,hb2⟩))
  go_ret2
  exact⟨rfl,(A7 _ _).trans (hb2.mono (by simp))⟩
end
section
variable {Xb:Ex}
def Ae:Obj:=.cells #[O J 0,O J 0,O J 0,O J 0,O J 0,O J 0,O J 0,O J 0,O J 0,O J 0,O J 0,Y none 0 0,.bool false,O J 0] 47
structure Lk(Xb:Ex)(w w1:Wq)(B lo:Nat)(aS aH aF aL:Option Addr)(cS cH cF cL:Nat)(M:Mm)(f:Fr)(aK:Option Addr)(cK:Nat):Prop where
 bl:Below w.heap.size w w1
 m:Mine Xb w1 B lo aS aH aF aL cS cH cF cL M
 lt:∀ k,Ac B aS aH aF aL k->k<w.heap.size
 fb:w1.heap[w.heap.size]?=some (.cells #[O J f.c.kind,O J f.c.a,O J f.c.b,O J f.c.time,O J f.c.bk,O J f.c.slot,O J f.pl,O J f.cur,O J f.prev,O J f.slot,O J f.n,Y aK f.keys.length cK,.bool f.done,O J f.e] 47 (0,0))
 zb:w1.heap[w.heap.size+1]?=some Ae
theorem b0z{w:Wq}{B lo:Nat}{aS aH aF aL:Option Addr}{cS cH cF cL:Nat}{M:Mm}(m:Mine Xb w B lo aS aH aF aL cS cH cF cL M):∀ k,Ac B aS aH aF aL k->k<w.heap.size:=by
 rintro k (rfl|⟨ad,rfl,rfl⟩|⟨ad,rfl,rfl⟩|⟨ad,rfl,rfl⟩|⟨ad,rfl,rfl⟩)
 ·exact lt_of_block m.box
 ·exact(m.c.s.lt _ rfl).2
 ·exact(m.c.h.lt _ rfl).2
 ·exact(m.c.f.lt _ rfl).2
 ·exact(m.c.l.lt _ rfl).2
section
variable {w w1 w2:Wq} {B lo:Nat} {aS aH aF aL:Option Addr} {cS cH cF cL:Nat} {M:Mm} {f:Fr} {aK:Option Addr} {cK:Nat}
theorem Lk.below(h:Lk Xb w w1 B lo aS aH aF aL cS cH cF cL M f aK cK)(hb:Below w1.heap.size w1 w2):Lk Xb w w2 B lo aS aH aF aL cS cH cF cL M f aK cK :=
 ⟨h.bl.trans (hb.mono h.bl.size),h.m.below hb,h.lt,(hb.block _ (lt_of_block h.fb)).trans h.fb,(hb.block _ (lt_of_block h.zb)).trans h.zb⟩
theorem Lk.first(m:Mine Xb w B lo aS aH aF aL cS cH cF cL M)(f:Fr)(aK:Option Addr)(cK:Nat){o oz:Obj}(ho:o=.cells #[O J f.c.kind,O J f.c.a,O J f.c.b,O J f.c.time,O J f.c.bk,O J f.c.slot,O J f.pl,O J f.cur,O J f.prev,O J f.slot,O J f.n,Y aK f.keys.length cK,.bool f.done,O J f.e] 47)(hz:oz=Ae):Lk Xb w ((w.alloc o).alloc oz) B lo aS aH aF aL cS cH cF cL M f aK cK:=by
 subst ho hz
 have h2:=below_alloc2 w (.cells #[O J f.c.kind,O J f.c.a,O J f.c.b,O J f.c.time,O J f.c.bk,O J f.c.slot,O J f.pl,O J f.cur,O J f.prev,O J f.slot,O J f.n,Y aK f.keys.length cK,.bool f.done,O J f.e] 47) Ae
 refine⟨h2,m.below h2,b0z m,?_,?_⟩
 ·rw[Below.heap_alloc _ _ _ (by simp)];exact heap_alloc_new w _
 ·have:=heap_alloc_new (w.alloc (.cells #[O J f.c.kind,O J f.c.a,O J f.c.b,O J f.c.time,O J f.c.bk,O J f.c.slot,O J f.pl,O J f.cur,O J f.prev,O J f.slot,O J f.n,Y aK f.keys.length cK,.bool f.done,O J f.e] 47)) Ae
  simpa using this
theorem Lk.store(h:Lk Xb w w1 B lo aS aH aF aL cS cH cF cL M f aK cK)(j:Nat)(v:Value)(g:Fr)(hg:(#[O J f.c.kind,O J f.c.a,O J f.c.b,O J f.c.time,O J f.c.bk,O J f.c.slot,O J f.pl,O J f.cur,O J f.prev,O J f.slot,O J f.n,Y aK f.keys.length cK,.bool f.done,O J f.e]:Array Value).setIfInBounds j v=#[O J g.c.kind,O J g.c.a,O J g.c.b,O J g.c.time,O J g.c.bk,O J g.c.slot,O J g.pl,O J g.cur,O J g.prev,O J g.slot,O J g.n,Y aK g.keys.length cK,.bool g.done,O J g.e]) :
  Lk Xb w (w1.setCell ⟨w.heap.size,j,none⟩ v) B lo aS aH aF aL cS cH cF cL M g aK cK:=by
 refine⟨h.bl.setCell (by simp) _,h.m.same (by simp) (fun k _ hk=>?_),h.lt,?_,by rw[Below.heap_setCell _ _ _ _ (by dsimp only;omega)];exact h.zb⟩
 ·have:=h.lt k hk
  rw[Below.heap_setCell _ _ _ _ (by dsimp only;omega)]
 ·rw[block_setCell h.fb v,hg]
end
theorem Zt{w w1:Wq}{n:Nat}{v0 v1 v2 v3 v4 v5 v6 v7 v8 v9 v10 v11 v12 v13:Value}(h:Below n w w1):Below n w ((((((((((((((w1.setCell ⟨n+1,0,none⟩ v0).setCell ⟨n+1,1,none⟩ v1).setCell ⟨n+1,2,none⟩ v2).setCell ⟨n+1,3,none⟩ v3).setCell ⟨n+1,4,none⟩ v4).setCell ⟨n+1,5,none⟩ v5).setCell ⟨n+1,6,none⟩ v6).setCell ⟨n+1,7,none⟩ v7).setCell ⟨n+1,8,none⟩ v8).setCell ⟨n+1,9,none⟩ v9).setCell ⟨n+1,10,none⟩ v10).setCell ⟨n+1,11,none⟩ v11).setCell ⟨n+1,12,none⟩ v12).setCell ⟨n+1,13,none⟩ v13):=by
 iterate 14 (refine Below.setCell ?_ (by dsimp only;omega) _)
 exact h
end
section
variable {Xb:Ex}
theorem Ci{w:Wq}{lo gS n cap:Nat}{M:Mm}(h:w.ownsRow lo 64 6 (Y (some ⟨gS,0,none⟩) n cap) n (encS M.slots)){j:Nat}(hj:j<M.slots.length){s:Sl}(hs:s=Aa M j) :
  w.cell? ⟨gS,j*6,none⟩=some (O J s.refs)/\w.cell? ⟨gS,j*6+1,none⟩=some (O J s.a)/\w.cell? ⟨gS,j*6+2,none⟩=some (O J s.b) /\
  w.cell? ⟨gS,j*6+3,none⟩=some (O J s.unt)/\w.cell? ⟨gS,j*6+4,none⟩=some (.bool s.inn)/\w.cell? ⟨gS,j*6+5,none⟩=some (O J s.next)/\∀ q,w.frozen? ⟨gS,q,none⟩=false:=by
 have e:s=M.slots[j]:=by rw[hs];simp[Aa,List.getD_eq_getElem?_getD,hj]
 rw[e]
 exact Df h hj
end
section
open Go.Deep Go.Sort
variable {Xb:Ex}
def Ret(w w':Wq)(e:Ending)(g:Fr)(aK:Option Addr)(cK:Nat):Prop :=
 ∃ a c,e=.returned (.agg #[O J g.c.kind,O J g.c.a,O J g.c.b,O J g.c.time,O J g.c.bk,O J g.c.slot,O J g.pl,O J g.cur,O J g.prev,O J g.slot,O J g.n,Y a g.keys.length c,.bool g.done,O J g.e])/\Am w' a c g.keys/\(∀ ad,a=some ad->aK=some ad\/w.heap.size<=ad.block)/\(g.done=false->a=aK/\c=cK)
theorem b3n{w1:Wq}{n:Nat}{a:Option Addr}{c:Nat}{l:List (Int × Int)}{v0 v1 v2 v3 v4 v5 v6 v7 v8 v9 v10 v11 v12 v13:Value}(r:Am w1 a c l)(h:∀ ad,a=some ad->n+2<=ad.block):Am ((((((((((((((w1.setCell ⟨n+1,0,none⟩ v0).setCell ⟨n+1,1,none⟩ v1).setCell ⟨n+1,2,none⟩ v2).setCell ⟨n+1,3,none⟩ v3).setCell ⟨n+1,4,none⟩ v4).setCell ⟨n+1,5,none⟩ v5).setCell ⟨n+1,6,none⟩ v6).setCell ⟨n+1,7,none⟩ v7).setCell ⟨n+1,8,none⟩ v8).setCell ⟨n+1,9,none⟩ v9).setCell ⟨n+1,10,none⟩ v10).setCell ⟨n+1,11,none⟩ v11).setCell ⟨n+1,12,none⟩ v12).setCell ⟨n+1,13,none⟩ v13) a c l:=by
 refine r.hi h (fun k hk=>?_)
 repeat rw[Below.heap_setCell _ _ _ _ (by dsimp only;omega)]
end
end Go.Proofs.YthhgoenomehobaaGreat.mm
