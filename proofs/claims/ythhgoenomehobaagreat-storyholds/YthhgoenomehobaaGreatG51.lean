/- Parts. -/
import Derived.Test.YthhgoenomehobaaGreatG43
import Derived.Test.YthhgoenomehobaaGreatG19
import Derived.Test.YthhgoenomehobaaGreatG44
import Derived.Test.YthhgoenomehobaaGreatG06
import Derived.Test.YthhgoenomehobaaGreatG07
import Derived.Test.YthhgoenomehobaaGreatG41
import Derived.Test.YthhgoenomehobaaGreatG42
namespace Go.Proofs.YthhgoenomehobaaGreat.mm
set_option maxRecDepth 100000
set_option linter.unusedVariables false
open Go.Value renaming int → O, slice → Y
open Go.IntKind renaming i64 → J
section
open Go.ChangeShapes Go.WideShapes Go.ChangeAt Go.RowKit Go.Joins Go.Deep Go.Maps
structure Mo where
 on:Bool
 fl:Fl
 now:Int
def moOf(o:Option Fl)(t:Int):Mo :=
 match o with
 | some f=>⟨true,f,t⟩
 | none=>⟨false,⟨0,0,0,0⟩,t⟩
def moAt(m:Mm)(a b:Int):Mo:=moOf (ofK (Bj m) a b) m.now
theorem find_at{p:Fl->Bool}{l:List Fl}{k:Nat}(h:k<l.length)(h0:(l.take k).any p=false)(hx:p l[k]=true):l.find? p=l[k]?:=by
 have e:l=l.take k++l[k] :: l.drop (k+1):=by rw[<- List.drop_eq_getElem_cons h,List.take_append_drop]
 have h1:(l.take k).find? p=none:=by
  rw[List.find?_eq_none]
  intro x hx'
  have:=List.any_eq_false.1 h0 x hx'
  simpa using this
 rw[List.getElem?_eq_getElem h]
 conv=>lhs;rw[e]
 rw[List.find?_append,h1,Option.none_or,List.find?_cons_of_pos hx]
theorem find_no{p:Fl->Bool}{l:List Fl}(h:l.any p=false):l.find? p=none:=by
 rw[List.find?_eq_none]
 intro x hx
 have:=List.any_eq_false.1 h x hx
 simpa using this
set_option maxHeartbeats 1600000 in
theorem idxFl(F:Nat)(caps:Array Value)(p:Fl->Bool)(ao:Option Addr)(cap:Nat)(l:List Fl)(w:World)(hat:FRow w ao cap l)(hF:∀ args W,(callFunc F args).run Tryz.prog W=.ok (.enter F args) W)
  (hp:∀ (x:Fl) W,Below w.heap.size w W->Calls Tryz.prog F (#[.agg #[O J x.a,O J x.b,O J x.slot,O J x.unt]] ++ caps) W fun e W'=>e=.returned (.bool (p x))/\Below W.heap.size W W') :
  Calls Tryz.prog 155 #[Y ao l.length cap,.func (.func F) #[] caps] w fun e w'=>∃ i:Int,e=.returned (O J i)/\(i=-1/\l.find? p=none\/∃ k:Nat,i=k/\k<l.length/\l.find? p=l[k]?)/\Below w.heap.size w w':=by
 have m1:=hat.max
 have HAT:Hid (FRow w ao cap l):=hat
 have HP:Hid (∀ (x:Fl) W,Below w.heap.size w W->Calls Tryz.prog F (#[.agg #[O J x.a,O J x.b,O J x.slot,O J x.unt]] ++ caps) W fun e W'=>e=.returned (.bool (p x))/\Below W.heap.size W W'):=hp
 have HFn:Hid (∀ args W,(callFunc F args).run Tryz.prog W=.ok (.enter F args) W):=hF
 clear hat hp hF
 go_enter Tryz.func155,Tryz.ntmps155
 go_wp2
 go_loopw [8] (fun i wr=>∃ k:Nat,k<=l.length/\i=O J k/\Hid (Below w.heap.size w wr)/\Hid ((l.take k).any p=false)) (fun i _=>l.length - (intOf i).toNat)
 case atStart=>exact⟨0,Nat.zero_le _,rfl,Below.refl _ _,by show _=_;simp⟩
 case round =>
  obtain⟨k,hk,rfl,HB,HC⟩:=hrel
  by_cases hlt:k<l.length
  ·rcases (HAT.out.below HB.out).at_ with h0|⟨bk,ok,rfl,hc⟩
   ·omega
   obtain⟨c0,c1,c2,c3⟩:=hc k hlt
   clear hc
   generalize hy:l[k]=y at c0 c1 c2 c3
   have HX:Hid (l[k]=y):=hy
   clear hy
   go_wp2_with fail
   rw[HFn.out]
   refine(HP.out y wr HB.out).mono ?_
   rintro e w1 ⟨rfl,hb1⟩
   have HB1:Hid (Below w.heap.size w w1):=HB.out.trans (hb1.mono HB.out.size)
   clear hb1 c0 c1 c2 c3
   cases hh:p y
   ·have HH:Hid ((l.take (k+1)).any p=false):=any_snoc hlt HC.out (by rw[HX.out];exact hh)
    go_wp2
    go_roundw
    case rel=>exact⟨k+1,by omega,by go_num,HB1,HH⟩
    case measure=>simp[intOf];omega
   ·have HH:Hid (l.find? p=l[k]?):=find_at hlt HC.out (by rw[HX.out];exact hh)
    go_wp2
    go_ret
    exact⟨k,rfl,.inr ⟨k,rfl,hlt,HH.out⟩,HB1.out⟩
  ·have HH:Hid (l.any p=false):=by
    have:=HC.out
    rw[show k=l.length by omega,List.take_length] at this
    exact this
   go_wp2
   go_ret
   exact⟨-1,rfl,.inl ⟨rfl,find_no HH.out⟩,HB.out⟩
theorem fnMo:∀ args W,(callFunc 156 args).run Tryz.prog W=.ok (.enter 156 args) W:=fun _ _=>by kernel_rfl
theorem litMo(a b:Int)(B:Nat)(x:Fl)(w:World)(hB:w.heap[B]?=some (.cells #[O J a,O J b] 30 (0,0))) :
  Calls Tryz.prog 156 (#[.agg #[O J x.a,O J x.b,O J x.slot,O J x.unt]] ++ #[.pointer (some ⟨B,0,none⟩)]) w fun e w'=>e=.returned (.bool (x.a==a && x.b==b))/\Below w.heap.size w w':=by
 have ke:=Qd x.a x.b a b
 have c0:w.cell? ⟨B,0,none⟩=some (O J a):=by rw[cell_of_block hB];rfl
 have c1:w.cell? ⟨B,1,none⟩=some (O J b):=by rw[cell_of_block hB];rfl
 have hlt:=lt_of_block hB
 have b0:Below w.heap.size w (w.alloc (.cells #[O J x.a,O J x.b,O J x.slot,O J x.unt] 61)):=Aa _ _
 generalize (x.a==a && x.b==b)=R at *
 clear hB
 go_enter Tryz.func156,Tryz.ntmps156
 go_wp2
 go_ret
 exact⟨rfl,b0⟩
theorem wl_mo{ops:Array Oper}{rest:List Oper}{op:Oper}{a:Act}{w:World}{Q:Exit->Act->World->Prop}{v0 v1 v2 v3 v4 v5:Value}{B o:Nat}(hgd:op.guard=none)(x:Operand)(ho:op.op=.load 139 x)(hx:a.eval x=.pointer (some ⟨B,o,none⟩))(h:w.rangeAt B o [v0,v1,v2,v3,v4,v5])(K:wpList Tryz.prog ops Q rest (a.put op.dst (.agg #[v0,v1,v2,v3,v4,v5])) w):wpList Tryz.prog ops Q (op :: rest) a w :=
 wpList_load_mid hgd 139 x ho B o hx [v0,v1,v2,v3,v4,v5] _ h Tryz.underlying139 rfl (by kernel_rfl) K
theorem ws_mo{ops:Array Oper}{rest:List Oper}{op:Oper}{a:Act}{w:World}{Q:Exit->Act->World->Prop}{v0 v1 v2 v3 v4 v5:Value}{B o:Nat}(hgd:op.guard=none)(x y:Operand)(ho:op.op=.store 139 x y)(hx:a.eval x=.pointer (some ⟨B,o,none⟩))(hy:a.eval y=.agg #[v0,v1,v2,v3,v4,v5])(h:w.there B o 6)(h1:(#[v0,v1,v2,v3,v4,v5].all (·.oneCell'))=true)(K:wpList Tryz.prog ops Q rest (a.put op.dst undef) (w.setCells B o [v0,v1,v2,v3,v4,v5])):wpList Tryz.prog ops Q (op :: rest) a w :=
 wpList_store_mid hgd 139 x y ho B o #[v0,v1,v2,v3,v4,v5] hx hy h (by kernel_rfl) h1 K
structure MoS(w w':World)(X Z:Nat)(x:Mo)(oz:Obj):Prop where
 box:w'.heap[X]?=some (.cells #[.bool x.on,O J x.fl.a,O J x.fl.b,O J x.fl.slot,O J x.fl.unt,O J x.now] 139 (0,0))
 res:w'.heap[Z]?=some oz
 bl:Below w.heap.size w w'
theorem MoS.below{w w1 w2:World}{X Z:Nat}{x:Mo}{oz:Obj}(h:MoS w w1 X Z x oz)(hb:Below w1.heap.size w1 w2):MoS w w2 X Z x oz :=
 ⟨(hb.block _ (lt_of_block h.box)).trans h.box,(hb.block _ (lt_of_block h.res)).trans h.res,h.bl.trans (hb.mono h.bl.size)⟩
theorem mos_set{w w3:World}{X Z:Nat}{f:Fl}{t:Int}{oz:Obj}(h:w3.heap[X]?=some (.cells #[.bool false,O J 0,O J 0,O J 0,O J 0,O J t] 139 (0,0)))(hz:w3.heap[Z]?=some oz)(hb:Below w.heap.size w w3)(hx:w.heap.size<=X)(hne:Z≠X) :
  MoS w (((((w3.setCell ⟨X,0,none⟩ (.bool true)).setCell ⟨X,1,none⟩ (O J f.a)).setCell ⟨X,2,none⟩ (O J f.b)).setCell ⟨X,3,none⟩ (O J f.slot)).setCell ⟨X,4,none⟩ (O J f.unt)) X Z ⟨true,f,t⟩ oz:=by
 refine⟨?_,?_,((((hb.setCell hx _).setCell hx _).setCell hx _).setCell hx _).setCell hx _⟩
 ·exact block_setCell (i:=4) (block_setCell (i:=3) (block_setCell (i:=2) (block_setCell (i:=1) (block_setCell (i:=0) h _) _) _) _) _
 ·repeat rw[Below.heap_setCell _ _ _ _ (by dsimp only;exact hne)]
  exact hz
set_option maxHeartbeats 1600000 in
theorem Vf{W:Wd}(I:WInv W)(ka kb:Int){lo:Nat}{w:World}{aS aH aF aL:Option Addr}{cS cH cF cL:Nat}{aT:Option Addr}{cT:Nat}(h:WAns lo w (.agg #[Y aS W.m.slots.length cS,Y aH W.m.heads.length cH,Y aF W.m.free.length cF,Y aL W.m.locks.length cL,O J W.m.now,Y aT W.ts.length cT]) W) :
  Calls Tryz.prog 132 #[.agg #[Y aS W.m.slots.length cS,Y aH W.m.heads.length cH,Y aF W.m.free.length cF,Y aL W.m.locks.length cL,O J W.m.now,Y aT W.ts.length cT],.agg #[O J ka,O J kb]] w fun e w'=>e=.returned (.tuple #[.agg #[.bool (moAt W.m ka kb).on,O J (moAt W.m ka kb).fl.a,O J (moAt W.m ka kb).fl.b,O J (moAt W.m ka kb).fl.slot,O J (moAt W.m ka kb).fl.unt,O J (moAt W.m ka kb).now],O J 0])/\Below w.heap.size w w':=by
 obtain⟨R,hR⟩:∃ R,R=moAt W.m ka kb:=⟨_,rfl⟩
 rw[<- hR]
 have HR:Hid (R=moOf (ofK (Bj W.m) ka kb) W.m.now):=hR
 clear hR
 have HI:Hid (WInv W):=I
 obtain⟨ox,hox⟩:∃ o:Obj,o=.cells #[Y aS W.m.slots.length cS,Y aH W.m.heads.length cH,Y aF W.m.free.length cF,Y aL W.m.locks.length cL,O J W.m.now,Y aT W.ts.length cT] 28:=⟨_,rfl⟩
 obtain⟨ok,hok⟩:∃ o:Obj,o=.cells #[O J ka,O J kb] 30:=⟨_,rfl⟩
 obtain⟨oz,hoz⟩:∃ o:Obj,o=.cells #[.bool false,O J 0,O J 0,O J 0,O J 0,O J 0] 139:=⟨_,rfl⟩
 have HE0:Hid (Env w (((w.alloc ox).alloc ok).alloc oz) [(w.heap.size+2,oz),(w.heap.size+1,ok),(w.heap.size,ox)] []):=by
  have h:=(((⟨Below.refl _ _,(fun p hp=>by cases hp),(fun p hp=>by cases hp)⟩:Env w w [] []).alloc ox).alloc ok).alloc oz
  rw[show (w.alloc ox).heap.size=w.heap.size+1 by simp,show ((w.alloc ox).alloc ok).heap.size=w.heap.size+2 by simp] at h
  exact h
 have HV0:Hid (WAns lo (((w.alloc ox).alloc ok).alloc oz) (.agg #[Y aS W.m.slots.length cS,Y aH W.m.heads.length cH,Y aF W.m.free.length cF,Y aL W.m.locks.length cL,O J W.m.now,Y aT W.ts.length cT]) W):=h.below HE0.out.bl
 clear I h
 have l6:Hid ((((w.alloc (.cells #[Y aS W.m.slots.length cS,Y aH W.m.heads.length cH,Y aF W.m.free.length cF,Y aL W.m.locks.length cL,O J W.m.now,Y aT W.ts.length cT] 28)).alloc (.cells #[O J ka,O J kb] 30)).alloc (.cells #[.bool false,O J 0,O J 0,O J 0,O J 0,O J 0] 139)).rangeAt w.heap.size 0 [Y aS W.m.slots.length cS,Y aH W.m.heads.length cH,Y aF W.m.free.length cF,Y aL W.m.locks.length cL,O J W.m.now,Y aT W.ts.length cT]):=by subst hox hok hoz;exact Ag (HE0.out.box (w.heap.size,_) (.tail _ (.tail _ (.head _)))) rfl
 go_enter Tryz.func132,Tryz.ntmps132
 go_wp2_with (refine wl_6 rfl _ rfl rfl l6.out ?_)
 rw[<- hox,<- hok,<- hoz]
 rw[<- hox,<- hok,<- hoz] at l6
 clear l6
 generalize ((w.alloc ox).alloc ok).alloc oz=V0 at *
 refine(Su HI.out HV0.out).mono ?_
 rw[a2g HI.out.okc]
 rintro e w2 ⟨ao,cap,rfl,hO,hb2⟩
 have hfew:=Yx HI.out.okc
 obtain⟨L,hL⟩:∃ L,L=Bj W.m:=⟨_,rfl⟩
 rw[<- hL] at hO hfew ⊢
 rw[<- hL] at HR
 have HF:Hid (FRow w2 ao cap L):=FRow.own hO hfew
 have HLt:Hid (∀ b o,ao=some ⟨b,o,none⟩->0<L.length->b<w2.heap.size):=fun b o e h0=>by
  rcases HF.out.at_ with h1|⟨b',o',e',hc⟩
  ·omega
  ·rw[e'] at e;cases e;exact cell_lt (hc 0 h0).1
 have hxv:w.heap.size+2<w2.heap.size:=lt_of_block ((HE0.out.below hb2).box (w.heap.size+2,_) (.head _))
 obtain⟨ov,hov⟩:∃ o:Obj,o=.cells #[.bool false,O J 0,O J 0,O J 0,O J 0,O J W.m.now] 139:=⟨_,rfl⟩
 have HE2:Hid (Env w (w2.alloc ov) [(w2.heap.size,ov),(w.heap.size+2,oz),(w.heap.size+1,ok),(w.heap.size,ox)] []):=(HE0.out.below hb2).alloc ov
 have HF2:Hid (FRow (w2.alloc ov) ao cap L):=HF.out.below (Aa _ _)
 have hX2:=(HE0.out.below hb2).box (w.heap.size,_) (.tail _ (.tail _ (.head _)))
 rw[hox] at hX2
 obtain⟨y0,y1,y2,y3,y4,y5,ys⟩:=D5 hX2
 clear hL hO hb2 HE0 HV0 HF hX2
 go_wp2_with fail
 rw[<- hov]
 generalize w2.heap.size=XV at *
 generalize w2.alloc ov=V2 at *
 clear y0 y1 y2 y3 y4 y5 ys
 have HKb:Hid (V2.heap[w.heap.size+1]?=some ok):=HE2.out.box (w.heap.size+1,_) (.tail _ (.tail _ (.head _)))
 refine(idxFl 156 #[.pointer (some ⟨w.heap.size+1,0,none⟩)] (fun f=>f.a==ka && f.b==kb) ao cap L V2 HF2.out fnMo (fun x V hb=>litMo ka kb (w.heap.size+1) x V (by rw[<- hok];exact(hb.block _ (lt_of_block HKb.out)).trans HKb.out))).mono ?_
 rintro e w3 ⟨i,rfl,hi,hb3⟩
 have HE3:Hid (Env w w3 [(XV,ov),(w.heap.size+2,oz),(w.heap.size+1,ok),(w.heap.size,ox)] []):=HE2.out.below hb3
 have HF3:Hid (FRow w3 ao cap L):=HF2.out.below hb3
 clear HE2 HF2 hb3 HKb
 have hXV:=HE3.out.box (XV,_) (.head _)
 have hZ:=HE3.out.box (w.heap.size+2,_) (.tail _ (.head _))
 rw[hov] at hXV
 rw[hoz] at hZ
 obtain⟨x0,x1,x2,x3,x4,x5,xs⟩:=D5 hXV
 obtain⟨z0,z1,z2,z3,z4,z5,zs⟩:=D5 hZ
 have t6:Hid (w3.there (w.heap.size+1+1) 0 6):=Bo hZ (by simp)
 rcases hi with ⟨rfl,hn⟩|⟨k,rfl,hkl,hfd⟩
 ·have hRe:R=⟨false,⟨0,0,0,0⟩,W.m.now⟩:=by
   rw[HR.out];unfold ofK;rw[hn];rfl
  subst hRe
  obtain⟨W4,hW4⟩:∃ W4,W4=w3.setCells (w.heap.size+1+1) 0 [.bool false,O J 0,O J 0,O J 0,O J 0,O J W.m.now]:=⟨_,rfl⟩
  have hZ4:W4.heap[w.heap.size+1+1]?=some (.cells #[.bool false,O J 0,O J 0,O J 0,O J 0,O J W.m.now] 139 (0,0)):=by rw[hW4];exact Bc hZ rfl
  have b4:Below w.heap.size w W4:=by rw[hW4];exact Ap HE3.out.bl (by omega)
  obtain⟨u0,u1,u2,u3,u4,u5,us⟩:=D5 hZ4
  clear hZ4 z0 z1 z2 z3 z4 z5 zs HE3 HF3 hn hXV hZ HR
  go_wp2_with (refine ws_mo rfl _ _ rfl rfl rfl t6.out (by kernel_rfl) ?_;rw[<- hW4];clear hW4 t6)
  refine bodyPost_ret (v:=.tuple #[.agg #[.bool false,O J 0,O J 0,O J 0,O J 0,O J W.m.now],O J 0]) (by simp[results,Tryz.results132,go_sem,u0,u1,u2,u3,u4,u5]) rfl ?_
  exact⟨rfl,b4⟩
 ·rcases HF3.out.at_ with h0|⟨bf,of,rfl,hc⟩
  ·omega
  obtain⟨c0,c1,c2,c3⟩:=hc k hkl
  obtain⟨f,hf⟩:∃ f,f=L[k]:=⟨_,rfl⟩
  rw[<- hf] at c0 c1 c2 c3
  have hRe:R=⟨true,f,W.m.now⟩:=by
   rw[HR.out];unfold ofK;rw[hfd,List.getElem?_eq_getElem hkl,<- hf];rfl
  subst hRe
  have hbf:bf<XV:=HLt.out bf of rfl (by omega)
  have hn1:bf≠XV:=by omega
  have hn2:XV≠bf:=by omega
  have f0:=fun j=>unfrozen_of_block hXV j
  have HS:Hid (MoS w _ XV (w.heap.size+1+1) ⟨true,f,W.m.now⟩ (.cells #[.bool false,O J 0,O J 0,O J 0,O J 0,O J 0] 139)):=mos_set (f:=f) hXV hZ HE3.out.bl (by omega) (by omega)
  clear HF3 HE3 hXV hZ hfd hf hc HLt t6 z0 z1 z2 z3 z4 z5 zs hxv hfew
  go_wp2_with fail
  rename_i K0 Q0 hK0
  apply Gv (R:=fun a=>∀ W2:World,MoS w W2 XV (w.heap.size+1+1) ⟨true,f,W.m.now⟩ (.cells #[.bool false,O J 0,O J 0,O J 0,O J 0,O J 0] 139)->K0 a W2)
  ·intro tail0
   have tail:Hid _:=tail0
   clear tail0
   go_region
   all_goals exact tail.out _ (HS.out.below ⟨rfl,rfl,rfl,Nat.le_refl _,fun _ _=>rfl⟩)
  intro w5 h5
  have H5:Hid _:=h5
  refine hK0 _ _ ?_
  clear h5 hK0 HS x0 x1 x2 x3 x4 x5 xs f0 c0 c1 c2 c3
  have hZ:=H5.out.res
  have t6:Hid (w5.there (w.heap.size+1+1) 0 6):=Bo hZ (by simp)
  have lm:Hid (w5.rangeAt XV 0 [.bool true,O J f.a,O J f.b,O J f.slot,O J f.unt,O J W.m.now]):=Ag H5.out.box rfl
  obtain⟨W4,hW4⟩:∃ W4,W4=w5.setCells (w.heap.size+1+1) 0 [.bool true,O J f.a,O J f.b,O J f.slot,O J f.unt,O J W.m.now]:=⟨_,rfl⟩
  have hZ4:W4.heap[w.heap.size+1+1]?=some (.cells #[.bool true,O J f.a,O J f.b,O J f.slot,O J f.unt,O J W.m.now] 139 (0,0)):=by rw[hW4];exact Bc hZ rfl
  have b4:Below w.heap.size w W4:=by rw[hW4];exact Ap H5.out.bl (by omega)
  obtain⟨u0,u1,u2,u3,u4,u5,us⟩:=D5 hZ4
  clear hZ4 hZ H5
  go_wp2_with (first|refine wl_mo rfl _ rfl rfl lm.out ?_|(refine ws_mo rfl _ _ rfl rfl rfl t6.out (by kernel_rfl) ?_;rw[<- hW4];clear hW4 t6))
  refine bodyPost_ret (v:=.tuple #[.agg #[.bool true,O J f.a,O J f.b,O J f.slot,O J f.unt,O J W.m.now],O J 0]) (by simp[results,Tryz.results132,go_sem,u0,u1,u2,u3,u4,u5]) rfl ?_
  exact⟨rfl,b4⟩
end
section
open Go.ChangeShapes Go.WideShapes Go.ChangeAt Go.RowKit Go.Joins Go.Deep Go.Maps
def Ep(x:Mo)(s:Int):Bool:=x.on && x.fl.slot==s
def Dk(x:Mo):Bool:=x.on && decide (x.now<x.fl.unt)
def U8(p:Pst)(x y:Mo):Bool :=
 if p.c.kind=1 then (if p.e=0 then (Ep x p.slot && Dk x) || (Ep y p.slot && Dk y) else !Dk x || !Dk y)
 else if p.c.kind=2 then (if p.e=0 then !x.on && Ep y p.slot else if p.e=6 then x.on || y.on else true)
 else if p.c.kind=3 then (if p.e=0 then x.on && !Ep y x.fl.slot else !x.on || !y.on)
 else true
theorem a5r(X:Option Fl)(u:Int):Dk (moOf X u)=lives X u:=by cases X <;> rfl
theorem isAtB_of(X:Option Fl)(u s:Int):Ep (moOf X u) s=Na X s:=by cases X <;> rfl
theorem on_of(X:Option Fl)(u:Int):(moOf X u).on=X.isSome:=by cases X <;> rfl
theorem a6w(p:Pst)(m m':Mm):U8 p (moAt m p.c.a p.c.b) (moAt m' p.c.a p.c.b)=accM p m m':=by
 unfold U8 accM accF moAt
 generalize ofK (Bj m) p.c.a p.c.b=X
 generalize ofK (Bj m') p.c.a p.c.b=Yq
 simp only[a5r,isAtB_of,on_of]
 by_cases h1:p.c.kind=1
 ·by_cases h2:p.e=0
  ·rw[if_pos h1,if_pos h2,if_pos ⟨h1,h2⟩,Bool.and_comm (Na X p.slot),Bool.and_comm (Na Yq p.slot)]
  ·rw[if_pos h1,if_neg h2,if_neg (fun h=>h2 h.2),if_pos h1]
 ·by_cases h3:p.c.kind=2
  ·by_cases h2:p.e=0
   ·simp only[h3,h2]
    cases X <;> rfl
   ·by_cases h4:p.e=6
    ·simp only[h3,h4];rfl
    ·simp[h3,h2,h4]
  ·by_cases h5:p.c.kind=3
   ·by_cases h2:p.e=0
    ·simp only[h5,h2]
     cases X with
     | none=>rfl
     | some f =>
      cases Yq with
      | none=>rfl
      | some g =>
       show (true && !(g.slot==f.slot))=(true && (false || !(f.slot==g.slot)))
       rw[show (g.slot==f.slot)=(f.slot==g.slot) from BEq.comm]
       rfl
    ·simp only[h5,h2]
     cases X <;> cases Yq <;> rfl
   ·simp[h1,h3,h5]
structure IsF(w:World)(v:Value)(p:Mo->Bool):Prop where
 ex:∃ F caps,v=.func (.func F) #[] caps/\(∀ args W,(callFunc F args).run Tryz.prog W=.ok (.enter F args) W)/\∀ W,Below w.heap.size w W->∀ x:Mo,Calls Tryz.prog F (#[.agg #[.bool x.on,O J x.fl.a,O J x.fl.b,O J x.fl.slot,O J x.fl.unt,O J x.now]] ++ caps) W fun e W'=>e=.returned (.bool (p x))/\Below W.heap.size W W'
structure RuF(w:World)(v:Value)(p:Mo->Mo->Bool):Prop where
 ex:∃ F caps,v=.func (.func F) #[] caps/\(∀ args W,(callFunc F args).run Tryz.prog W=.ok (.enter F args) W)/\∀ W,Below w.heap.size w W->∀ x y:Mo,Calls Tryz.prog F (#[.agg #[.bool x.on,O J x.fl.a,O J x.fl.b,O J x.fl.slot,O J x.fl.unt,O J x.now],.agg #[.bool y.on,O J y.fl.a,O J y.fl.b,O J y.fl.slot,O J y.fl.unt,O J y.now]] ++ caps) W fun e W'=>e=.returned (.bool (p x y))/\Below W.heap.size W W'
theorem Wl(x:Mo)(s:Int)(w:World):Calls Tryz.prog 148 #[.agg #[.bool x.on,O J x.fl.a,O J x.fl.b,O J x.fl.slot,O J x.fl.unt,O J x.now],O J s] w fun e w'=>e=.returned (.bool (Ep x s))/\Below w.heap.size w w':=by
 obtain⟨on,fl,now⟩:=x
 cases on
 ·go_enter Tryz.func148,Tryz.ntmps148
  go_wp2
  go_ret
  exact⟨rfl,Aa _ _⟩
 ·go_enter Tryz.func148,Tryz.ntmps148
  go_wp2
  go_ret
  exact⟨rfl,Aa _ _⟩
theorem Xv(x:Mo)(w:World):Calls Tryz.prog 149 #[.agg #[.bool x.on,O J x.fl.a,O J x.fl.b,O J x.fl.slot,O J x.fl.unt,O J x.now]] w fun e w'=>e=.returned (.bool (Dk x))/\Below w.heap.size w w':=by
 obtain⟨on,fl,now⟩:=x
 cases on
 ·go_enter Tryz.func149,Tryz.ntmps149
  go_wp2
  go_ret
  exact⟨rfl,Aa _ _⟩
 ·go_enter Tryz.func149,Tryz.ntmps149
  go_wp2
  go_ret
  exact⟨by simp[Dk],Aa _ _⟩
theorem a1x(x y:Mo)(w:World):Calls Tryz.prog 131 (#[.agg #[.bool x.on,O J x.fl.a,O J x.fl.b,O J x.fl.slot,O J x.fl.unt,O J x.now],.agg #[.bool y.on,O J y.fl.a,O J y.fl.b,O J y.fl.slot,O J y.fl.unt,O J y.now]] ++ #[]) w fun e w'=>e=.returned (.bool true)/\Below w.heap.size w w':=by
 go_enter Tryz.func131,Tryz.ntmps131
 go_wp2
 go_ret
 exact⟨rfl,below_alloc2 _ _ _⟩
theorem lit152(x:Mo)(w:World):Calls Tryz.prog 152 (#[.agg #[.bool x.on,O J x.fl.a,O J x.fl.b,O J x.fl.slot,O J x.fl.unt,O J x.now]] ++ #[]) w fun e w'=>e=.returned (.bool x.on)/\Below w.heap.size w w':=by
 go_enter Tryz.func152,Tryz.ntmps152
 go_wp2
 go_ret
 exact⟨rfl,Aa _ _⟩
theorem lit154(x:Mo)(w:World):Calls Tryz.prog 154 (#[.agg #[.bool x.on,O J x.fl.a,O J x.fl.b,O J x.fl.slot,O J x.fl.unt,O J x.now]] ++ #[]) w fun e w'=>e=.returned (.bool !x.on)/\Below w.heap.size w w':=by
 go_enter Tryz.func154,Tryz.ntmps154
 go_wp2
 go_ret
 exact⟨rfl,Aa _ _⟩
theorem lit150(x:Mo)(w:World):Calls Tryz.prog 150 (#[.agg #[.bool x.on,O J x.fl.a,O J x.fl.b,O J x.fl.slot,O J x.fl.unt,O J x.now]] ++ #[]) w fun e w'=>e=.returned (.bool !Dk x)/\Below w.heap.size w w':=by
 have HL:Hid (∀ W,Calls Tryz.prog 149 #[.agg #[.bool x.on,O J x.fl.a,O J x.fl.b,O J x.fl.slot,O J x.fl.unt,O J x.now]] W fun e w'=>e=.returned (.bool (Dk x))/\Below W.heap.size W w'):=Xv x
 have Hb:Hid (∀ o,Below w.heap.size w (w.alloc o)):=fun o=>Aa _ _
 generalize Dk x=R at *
 go_enter Tryz.func150,Tryz.ntmps150
 go_wp2_with fail
 refine(HL.out _).mono ?_
 rintro e w1 ⟨rfl,hb1⟩
 have Hb1:Hid (Below w.heap.size w w1):=(Hb.out _).trans (hb1.mono (Hb.out _).size)
 clear hb1
 go_wp2
 go_ret
 exact⟨rfl,Hb1.out⟩
theorem Ib{w:World}{B:Nat}{p:Pst}{aK:Option Addr}{cK:Nat}(h:w.heap[B]?=some (.cells #[O J p.task,O J p.c.kind,O J p.c.a,O J p.c.b,O J p.c.time,O J p.c.bk,O J p.c.slot,O J p.fro,O J p.to,O J p.e,O J p.slot,O J p.n,Y aK p.keys.length cK] 78 (0,0))):w.cell? ⟨B,10,none⟩=some (O J p.slot)/\w.cell? ⟨B,7,none⟩=some (O J p.fro)/\w.cell? ⟨B,8,none⟩=some (O J p.to)/\w.cell? ⟨B,9,none⟩=some (O J p.e)/\w.cell? ⟨B,1,none⟩=some (O J p.c.kind)/\B<w.heap.size :=
 ⟨by rw[cell_of_block h];rfl,by rw[cell_of_block h];rfl,by rw[cell_of_block h];rfl,by rw[cell_of_block h];rfl,by rw[cell_of_block h];rfl,lt_of_block h⟩
theorem lit147(p:Pst)(aK:Option Addr)(cK B:Nat)(x:Mo)(w:World)(hB:w.heap[B]?=some (.cells #[O J p.task,O J p.c.kind,O J p.c.a,O J p.c.b,O J p.c.time,O J p.c.bk,O J p.c.slot,O J p.fro,O J p.to,O J p.e,O J p.slot,O J p.n,Y aK p.keys.length cK] 78 (0,0))) :
  Calls Tryz.prog 147 (#[.agg #[.bool x.on,O J x.fl.a,O J x.fl.b,O J x.fl.slot,O J x.fl.unt,O J x.now]] ++ #[.pointer (some ⟨B,0,none⟩)]) w fun e w'=>e=.returned (.bool (Ep x p.slot && Dk x))/\Below w.heap.size w w':=by
 obtain⟨c10,-,-,-,-,hlt⟩:=Ib hB
 have HA:Hid (∀ W,Calls Tryz.prog 148 #[.agg #[.bool x.on,O J x.fl.a,O J x.fl.b,O J x.fl.slot,O J x.fl.unt,O J x.now],O J p.slot] W fun e w'=>e=.returned (.bool (Ep x p.slot))/\Below W.heap.size W w'):=Wl x p.slot
 have HL:Hid (∀ W,Calls Tryz.prog 149 #[.agg #[.bool x.on,O J x.fl.a,O J x.fl.b,O J x.fl.slot,O J x.fl.unt,O J x.now]] W fun e w'=>e=.returned (.bool (Dk x))/\Below W.heap.size W w'):=Xv x
 obtain⟨ox,hox⟩:∃ o:Obj,o=.cells #[.bool x.on,O J x.fl.a,O J x.fl.b,O J x.fl.slot,O J x.fl.unt,O J x.now] 139:=⟨_,rfl⟩
 have Hb:Hid (Below w.heap.size w (w.alloc ox)):=Aa _ _
 have HX:Hid ((w.alloc ox).heap[w.heap.size]?=some ox):=heap_alloc_new _ _
 generalize Ep x p.slot=R at *
 generalize Dk x=S at *
 clear hB
 go_enter Tryz.func147,Tryz.ntmps147
 go_wp2_with fail
 rw[<- hox]
 generalize w.alloc ox=V at *
 refine(HA.out V).mono ?_
 rintro e w1 ⟨rfl,hb1⟩
 have Hb1:Hid (Below w.heap.size w w1):=Hb.out.trans (hb1.mono Hb.out.size)
 have hX1:=(hb1.block _ (lt_of_block HX.out)).trans HX.out
 rw[hox] at hX1
 obtain⟨m0,m1,m2,m3,m4,m5,ms⟩:=D5 hX1
 clear hb1 Hb HX HA c10 hX1
 cases R
 ·go_wp2
  go_ret
  exact⟨rfl,Hb1.out⟩
 ·go_wp2_with fail
  refine(HL.out _).mono ?_
  rintro e w2 ⟨rfl,hb2⟩
  have Hb2:Hid (Below w.heap.size w w2):=Hb1.out.trans (hb2.mono Hb1.out.size)
  clear hb2
  go_wp2
  go_ret
  exact⟨rfl,Hb2.out⟩
theorem lit151(p:Pst)(aK:Option Addr)(cK B:Nat)(x y:Mo)(w:World)(hB:w.heap[B]?=some (.cells #[O J p.task,O J p.c.kind,O J p.c.a,O J p.c.b,O J p.c.time,O J p.c.bk,O J p.c.slot,O J p.fro,O J p.to,O J p.e,O J p.slot,O J p.n,Y aK p.keys.length cK] 78 (0,0))) :
  Calls Tryz.prog 151 (#[.agg #[.bool x.on,O J x.fl.a,O J x.fl.b,O J x.fl.slot,O J x.fl.unt,O J x.now],.agg #[.bool y.on,O J y.fl.a,O J y.fl.b,O J y.fl.slot,O J y.fl.unt,O J y.now]] ++ #[.pointer (some ⟨B,0,none⟩)]) w fun e w'=>e=.returned (.bool (!x.on && Ep y p.slot))/\Below w.heap.size w w':=by
 obtain⟨c10,-,-,-,-,hlt⟩:=Ib hB
 have HA:Hid (∀ W,Calls Tryz.prog 148 #[.agg #[.bool y.on,O J y.fl.a,O J y.fl.b,O J y.fl.slot,O J y.fl.unt,O J y.now],O J p.slot] W fun e w'=>e=.returned (.bool (Ep y p.slot))/\Below W.heap.size W w'):=Wl y p.slot
 have Hb:Hid (∀ o o',Below w.heap.size w ((w.alloc o).alloc o')):=fun _ _=>below_alloc2 _ _ _
 obtain⟨on,fl,now⟩:=x
 generalize Ep y p.slot=R at *
 clear hB
 cases on
 ·go_enter Tryz.func151,Tryz.ntmps151
  go_wp2_with fail
  refine(HA.out _).mono ?_
  rintro e w1 ⟨rfl,hb1⟩
  have Hb1:Hid (Below w.heap.size w w1):=(Hb.out _ _).trans (hb1.mono (Hb.out _ _).size)
  clear hb1 c10
  go_wp2
  go_ret
  exact⟨rfl,Hb1.out⟩
 ·go_enter Tryz.func151,Tryz.ntmps151
  go_wp2
  go_ret
  exact⟨rfl,Hb.out _ _⟩
theorem lit153(x y:Mo)(w:World) :
  Calls Tryz.prog 153 (#[.agg #[.bool x.on,O J x.fl.a,O J x.fl.b,O J x.fl.slot,O J x.fl.unt,O J x.now],.agg #[.bool y.on,O J y.fl.a,O J y.fl.b,O J y.fl.slot,O J y.fl.unt,O J y.now]] ++ #[]) w fun e w'=>e=.returned (.bool (x.on && !Ep y x.fl.slot))/\Below w.heap.size w w':=by
 have HA:Hid (∀ W,Calls Tryz.prog 148 #[.agg #[.bool y.on,O J y.fl.a,O J y.fl.b,O J y.fl.slot,O J y.fl.unt,O J y.now],O J x.fl.slot] W fun e w'=>e=.returned (.bool (Ep y x.fl.slot))/\Below W.heap.size W w'):=Wl y x.fl.slot
 have Hb:Hid (∀ o o',Below w.heap.size w ((w.alloc o).alloc o')):=fun _ _=>below_alloc2 _ _ _
 obtain⟨on,fl,now⟩:=x
 dsimp only at HA ⊢
 generalize Ep y fl.slot=R at *
 cases on
 ·go_enter Tryz.func153,Tryz.ntmps153
  go_wp2
  go_ret
  exact⟨rfl,Hb.out _ _⟩
 ·go_enter Tryz.func153,Tryz.ntmps153
  go_wp2_with fail
  refine(HA.out _).mono ?_
  rintro e w1 ⟨rfl,hb1⟩
  have Hb1:Hid (Below w.heap.size w w1):=(Hb.out _ _).trans (hb1.mono (Hb.out _ _).size)
  clear hb1
  go_wp2
  go_ret
  exact⟨rfl,Hb1.out⟩
theorem lit163(g:Mo->Bool)(B:Nat)(v:Value)(x y:Mo)(w w0:World)(hB:w.heap[B]?=some (.cells #[v] 186 (0,0)))(hv:IsF w0 v g)(hw:Below w0.heap.size w0 w) :
  Calls Tryz.prog 163 (#[.agg #[.bool x.on,O J x.fl.a,O J x.fl.b,O J x.fl.slot,O J x.fl.unt,O J x.now],.agg #[.bool y.on,O J y.fl.a,O J y.fl.b,O J y.fl.slot,O J y.fl.unt,O J y.now]] ++ #[.pointer (some ⟨B,0,none⟩)]) w fun e w'=>e=.returned (.bool (g x || g y))/\Below w.heap.size w w':=by
 obtain⟨F,caps,rfl,h1,h2⟩:=hv.ex
 obtain⟨c0,-,hlt⟩:=Af hB
 have HFn:Hid (∀ args W,(callFunc F args).run Tryz.prog W=.ok (.enter F args) W):=h1
 have HP:Hid (∀ W,Below w.heap.size w W->∀ x:Mo,Calls Tryz.prog F (#[.agg #[.bool x.on,O J x.fl.a,O J x.fl.b,O J x.fl.slot,O J x.fl.unt,O J x.now]] ++ caps) W fun e W'=>e=.returned (.bool (g x))/\Below W.heap.size W W'):=fun W hW=>h2 W (hw.trans (hW.mono hw.size))
 obtain⟨ox,hox⟩:∃ o:Obj,o=.cells #[.bool x.on,O J x.fl.a,O J x.fl.b,O J x.fl.slot,O J x.fl.unt,O J x.now] 139:=⟨_,rfl⟩
 obtain⟨oy,hoy⟩:∃ o:Obj,o=.cells #[.bool y.on,O J y.fl.a,O J y.fl.b,O J y.fl.slot,O J y.fl.unt,O J y.now] 139:=⟨_,rfl⟩
 have Hb:Hid (Below w.heap.size w ((w.alloc ox).alloc oy)):=below_alloc2 _ _ _
 have HY:Hid (((w.alloc ox).alloc oy).heap[w.heap.size+1]?=some oy):=by
  have:=heap_alloc_new (w.alloc ox) oy
  rwa [show (w.alloc ox).heap.size=w.heap.size+1 by simp] at this
 have HB:Hid (((w.alloc ox).alloc oy).heap[B]?=some (.cells #[.func (.func F) #[] caps] 186 (0,0))):=(Hb.out.block _ hlt).trans hB
 obtain⟨R,hR⟩:∃ R,R=(g x || g y):=⟨_,rfl⟩
 rw[<- hR]
 have HR:Hid (R=(g x || g y)):=hR
 clear hv hw h1 h2 hB hR
 go_enter Tryz.func163,Tryz.ntmps163
 go_wp2_with fail
 rw[<- hox,<- hoy]
 generalize (w.alloc ox).alloc oy=V at *
 rw[HFn.out]
 refine(HP.out V Hb.out x).mono ?_
 rintro e w1 ⟨rfl,hb1⟩
 have Hb1:Hid (Below w.heap.size w w1):=Hb.out.trans (hb1.mono Hb.out.size)
 have hY1:=(hb1.block _ (lt_of_block HY.out)).trans HY.out
 rw[hoy] at hY1
 obtain⟨m0,m1,m2,m3,m4,m5,ms⟩:=D5 hY1
 obtain⟨d0,-,-⟩:=Af ((hb1.block _ (lt_of_block HB.out)).trans HB.out)
 clear hb1 Hb HY c0 HB hY1
 cases hgx:g x
 ·have hRe:R=g y:=by rw[HR.out,hgx];rfl
  clear HR hgx
  go_wp2_with fail
  rw[HFn.out]
  refine(HP.out w1 Hb1.out y).mono ?_
  rintro e w2 ⟨rfl,hb2⟩
  have Hb2:Hid (Below w.heap.size w w2):=Hb1.out.trans (hb2.mono Hb1.out.size)
  clear hb2
  rw[<- hRe]
  clear hRe
  go_wp2
  go_ret
  exact⟨rfl,Hb2.out⟩
 ·have hRe:R=true:=by rw[HR.out,hgx];rfl
  subst hRe
  clear HR hgx
  go_wp2
  go_ret
  exact⟨rfl,Hb1.out⟩
theorem fn163:∀ args W,(callFunc 163 args).run Tryz.prog W=.ok (.enter 163 args) W:=fun _ _=>by kernel_rfl
theorem Lh(g:Mo->Bool)(v:Value)(w:World)(hv:IsF w v g) :
  Calls Tryz.prog 146 #[v] w fun e w'=>∃ v',e=.returned v'/\RuF w' v' (fun x y=>g x || g y)/\Below w.heap.size w w':=by
 have HB:Hid ((w.alloc (.cells #[v] 186)).heap[w.heap.size]?=some (.cells #[v] 186 (0,0))):=heap_alloc_new _ _
 have Hb:Hid (Below w.heap.size w (w.alloc (.cells #[v] 186))):=Aa _ _
 have HV:Hid (IsF w v g):=hv
 obtain⟨F,caps,rfl,-,-⟩:=hv.ex
 clear hv
 go_enter Tryz.func146,Tryz.ntmps146
 go_wp2
 go_ret
 refine⟨_,rfl,⟨_,_,rfl,fn163,fun W hW x y=>?_⟩,Hb.out⟩
 exact lit163 g _ _ x y W w ((hW.block _ (lt_of_block HB.out)).trans HB.out) HV.out (Hb.out.trans (hW.mono Hb.out.size))
end
section
open Go.ChangeShapes Go.WideShapes Go.ChangeAt Go.RowKit Go.Joins Go.Deep Go.Maps
theorem wl_P{ops:Array Oper}{rest:List Oper}{op:Oper}{a:Act}{w:World}{Q:Exit->Act->World->Prop}{p:Pst}{aK:Option Addr}{cK:Nat}{B o:Nat}(hgd:op.guard=none)(x:Operand)(ho:op.op=.load 78 x)(hx:a.eval x=.pointer (some ⟨B,o,none⟩))(h:w.rangeAt B o (p.enc aK cK))(K:wpList Tryz.prog ops Q rest (a.put op.dst (.agg #[O J p.task,O J p.c.kind,O J p.c.a,O J p.c.b,O J p.c.time,O J p.c.bk,O J p.c.slot,O J p.fro,O J p.to,O J p.e,O J p.slot,O J p.n,Y aK p.keys.length cK])) w):wpList Tryz.prog ops Q (op :: rest) a w :=
 wpList_load_mid hgd 78 x ho B o hx (p.enc aK cK) _ h Tryz.underlying78 rfl (by kernel_rfl) K
def RuP(w:World)(p:Mo->Mo->Bool)(e:Ending)(w':World):Prop:=∃ v,e=.returned v/\RuF w' v p/\Below w.heap.size w w'
theorem fn147:∀ args W,(callFunc 147 args).run Tryz.prog W=.ok (.enter 147 args) W:=fun _ _=>by kernel_rfl
theorem fn150:∀ args W,(callFunc 150 args).run Tryz.prog W=.ok (.enter 150 args) W:=fun _ _=>by kernel_rfl
theorem fn152:∀ args W,(callFunc 152 args).run Tryz.prog W=.ok (.enter 152 args) W:=fun _ _=>by kernel_rfl
theorem fn154:∀ args W,(callFunc 154 args).run Tryz.prog W=.ok (.enter 154 args) W:=fun _ _=>by kernel_rfl
theorem fn151:∀ args W,(callFunc 151 args).run Tryz.prog W=.ok (.enter 151 args) W:=fun _ _=>by kernel_rfl
theorem fn153:∀ args W,(callFunc 153 args).run Tryz.prog W=.ok (.enter 153 args) W:=fun _ _=>by kernel_rfl
theorem fn131:∀ args W,(callFunc 131 args).run Tryz.prog W=.ok (.enter 131 args) W:=fun _ _=>by kernel_rfl
theorem Um(w:World):RuF w (.func (.func 131) #[] #[]) (fun _ _=>true):=⟨_,_,rfl,fn131,fun W _ x y=>a1x x y W⟩
set_option maxHeartbeats 1600000 in
theorem rLook(p:Pst)(aK:Option Addr)(cK:Nat)(w:World) :
  Calls Tryz.prog 128 #[.agg #[O J p.task,O J p.c.kind,O J p.c.a,O J p.c.b,O J p.c.time,O J p.c.bk,O J p.c.slot,O J p.fro,O J p.to,O J p.e,O J p.slot,O J p.n,Y aK p.keys.length cK]] w (RuP w (fun x y=>if p.e=0 then (Ep x p.slot && Dk x) || (Ep y p.slot && Dk y) else !Dk x || !Dk y)):=by
 obtain⟨op,hop⟩:∃ o:Obj,o=.cells #[O J p.task,O J p.c.kind,O J p.c.a,O J p.c.b,O J p.c.time,O J p.c.bk,O J p.c.slot,O J p.fro,O J p.to,O J p.e,O J p.slot,O J p.n,Y aK p.keys.length cK] 78:=⟨_,rfl⟩
 have Hb:Hid (Below w.heap.size w (w.alloc op)):=Aa _ _
 have HB:Hid ((w.alloc op).heap[w.heap.size]?=some op):=heap_alloc_new _ _
 by_cases h:p.e=0
 ·rw[show (fun x y=>if p.e=0 then (Ep x p.slot && Dk x) || (Ep y p.slot && Dk y) else !Dk x || !Dk y)=(fun x y=>(Ep x p.slot && Dk x) || (Ep y p.slot && Dk y)) from by funext x y;rw[if_pos h]]
  have h':(p.e==0)=true:=by simpa using h
  have hI:IsF (w.alloc op) (.func (.func 147) #[] #[.pointer (some ⟨w.heap.size,0,none⟩)]) (fun x=>Ep x p.slot && Dk x):=⟨_,_,rfl,fn147,fun W hW x=>lit147 p aK cK _ x W (by have:=(hW.block _ (lt_of_block HB.out)).trans HB.out;rw[hop] at this;exact this)⟩
  clear h
  go_enter Tryz.func128,Tryz.ntmps128
  go_wp2_with fail
  rw[<- hop]
  refine(Lh _ _ (w.alloc op) hI).mono ?_
  rintro e w1 ⟨v1,rfl,hv1,hb1⟩
  obtain⟨F1,caps1,rfl,-,-⟩:=id hv1.ex
  have HV1:Hid (RuF w1 _ _):=hv1
  have Hb1:Hid (Below w.heap.size w w1):=Hb.out.trans (hb1.mono Hb.out.size)
  clear hv1 hb1
  go_wp2
  go_ret
  exact⟨_,rfl,HV1.out,Hb1.out⟩
 ·rw[show (fun x y=>if p.e=0 then (Ep x p.slot && Dk x) || (Ep y p.slot && Dk y) else !Dk x || !Dk y)=(fun x y=>!Dk x || !Dk y) from by funext x y;rw[if_neg h]]
  have h':(p.e==0)=false:=by simpa using h
  have hI:IsF (w.alloc op) (.func (.func 150) #[] #[]) (fun x=>!Dk x):=⟨_,_,rfl,fn150,fun W hW x=>lit150 x W⟩
  clear h
  go_enter Tryz.func128,Tryz.ntmps128
  go_wp2_with fail
  rw[<- hop]
  refine(Lh _ _ (w.alloc op) hI).mono ?_
  rintro e w1 ⟨v1,rfl,hv1,hb1⟩
  obtain⟨F1,caps1,rfl,-,-⟩:=id hv1.ex
  have HV1:Hid (RuF w1 _ _):=hv1
  have Hb1:Hid (Below w.heap.size w w1):=Hb.out.trans (hb1.mono Hb.out.size)
  clear hv1 hb1
  go_wp2
  go_ret
  exact⟨_,rfl,HV1.out,Hb1.out⟩
set_option maxHeartbeats 1600000 in
theorem rDrop(p:Pst)(aK:Option Addr)(cK:Nat)(w:World) :
  Calls Tryz.prog 130 #[.agg #[O J p.task,O J p.c.kind,O J p.c.a,O J p.c.b,O J p.c.time,O J p.c.bk,O J p.c.slot,O J p.fro,O J p.to,O J p.e,O J p.slot,O J p.n,Y aK p.keys.length cK]] w (RuP w (fun x y=>if p.e=0 then x.on && !Ep y x.fl.slot else !x.on || !y.on)):=by
 obtain⟨op,hop⟩:∃ o:Obj,o=.cells #[O J p.task,O J p.c.kind,O J p.c.a,O J p.c.b,O J p.c.time,O J p.c.bk,O J p.c.slot,O J p.fro,O J p.to,O J p.e,O J p.slot,O J p.n,Y aK p.keys.length cK] 78:=⟨_,rfl⟩
 have Hb:Hid (Below w.heap.size w (w.alloc op)):=Aa _ _
 have HB:Hid ((w.alloc op).heap[w.heap.size]?=some op):=heap_alloc_new _ _
 by_cases h:p.e=0
 ·rw[show (fun (x y:Mo)=>if p.e=0 then x.on && !Ep y x.fl.slot else !x.on || !y.on)=(fun x y=>x.on && !Ep y x.fl.slot) from by funext x y;rw[if_pos h]]
  have h':(p.e==0)=true:=by simpa using h
  have hI:RuF (w.alloc op) (.func (.func 153) #[] #[]) (fun x y=>x.on && !Ep y x.fl.slot):=⟨_,_,rfl,fn153,fun W hW x y=>lit153 x y W⟩
  have HI:Hid _:=hI
  clear h hI
  go_enter Tryz.func130,Tryz.ntmps130
  go_wp2_with fail
  go_ret
  rw[<- hop]
  exact⟨_,rfl,HI.out,Hb.out⟩
 ·rw[show (fun (x y:Mo)=>if p.e=0 then x.on && !Ep y x.fl.slot else !x.on || !y.on)=(fun x y=>!x.on || !y.on) from by funext x y;rw[if_neg h]]
  have h':(p.e==0)=false:=by simpa using h
  have hI:IsF (w.alloc op) (.func (.func 154) #[] #[]) (fun x=>!x.on):=⟨_,_,rfl,fn154,fun W hW x=>lit154 x W⟩
  clear h
  go_enter Tryz.func130,Tryz.ntmps130
  go_wp2_with fail
  rw[<- hop]
  refine(Lh _ _ (w.alloc op) hI).mono ?_
  rintro e w1 ⟨v1,rfl,hv1,hb1⟩
  obtain⟨F1,caps1,rfl,-,-⟩:=id hv1.ex
  have HV1:Hid (RuF w1 _ _):=hv1
  have Hb1:Hid (Below w.heap.size w w1):=Hb.out.trans (hb1.mono Hb.out.size)
  clear hv1 hb1
  go_wp2
  go_ret
  exact⟨_,rfl,HV1.out,Hb1.out⟩
set_option maxHeartbeats 1600000 in
theorem rAdd(p:Pst)(aK:Option Addr)(cK:Nat)(w:World) :
  Calls Tryz.prog 129 #[.agg #[O J p.task,O J p.c.kind,O J p.c.a,O J p.c.b,O J p.c.time,O J p.c.bk,O J p.c.slot,O J p.fro,O J p.to,O J p.e,O J p.slot,O J p.n,Y aK p.keys.length cK]] w (RuP w (fun x y=>if p.e=0 then !x.on && Ep y p.slot else if p.e=6 then x.on || y.on else true)):=by
 obtain⟨op,hop⟩:∃ o:Obj,o=.cells #[O J p.task,O J p.c.kind,O J p.c.a,O J p.c.b,O J p.c.time,O J p.c.bk,O J p.c.slot,O J p.fro,O J p.to,O J p.e,O J p.slot,O J p.n,Y aK p.keys.length cK] 78:=⟨_,rfl⟩
 have Hb:Hid (Below w.heap.size w (w.alloc op)):=Aa _ _
 have HB:Hid ((w.alloc op).heap[w.heap.size]?=some op):=heap_alloc_new _ _
 by_cases h:p.e=0
 ·rw[show (fun (x y:Mo)=>if p.e=0 then !x.on && Ep y p.slot else if p.e=6 then x.on || y.on else true)=(fun x y=>!x.on && Ep y p.slot) from by funext x y;rw[if_pos h]]
  have h':(p.e==0)=true:=by simpa using h
  have hI:RuF (w.alloc op) (.func (.func 151) #[] #[.pointer (some ⟨w.heap.size,0,none⟩)]) (fun x y=>!x.on && Ep y p.slot):=⟨_,_,rfl,fn151,fun W hW x y=>lit151 p aK cK _ x y W (by have:=(hW.block _ (lt_of_block HB.out)).trans HB.out;rw[hop] at this;exact this)⟩
  have HI:Hid _:=hI
  clear h hI
  go_enter Tryz.func129,Tryz.ntmps129
  go_wp2_with fail
  go_ret
  rw[<- hop]
  exact⟨_,rfl,HI.out,Hb.out⟩
 ·have h0:(p.e==0)=false:=by simpa using h
  by_cases h6:p.e=6
  ·rw[show (fun (x y:Mo)=>if p.e=0 then !x.on && Ep y p.slot else if p.e=6 then x.on || y.on else true)=(fun x y=>x.on || y.on) from by funext x y;rw[if_neg h,if_pos h6]]
   have h':(p.e==6)=true:=by simpa using h6
   have hI:IsF (w.alloc op) (.func (.func 152) #[] #[]) (fun x=>x.on):=⟨_,_,rfl,fn152,fun W hW x=>lit152 x W⟩
   clear h h6
   go_enter Tryz.func129,Tryz.ntmps129
   go_wp2_with fail
   rw[<- hop]
   refine(Lh _ _ (w.alloc op) hI).mono ?_
   rintro e w1 ⟨v1,rfl,hv1,hb1⟩
   obtain⟨F1,caps1,rfl,-,-⟩:=id hv1.ex
   have HV1:Hid (RuF w1 _ _):=hv1
   have Hb1:Hid (Below w.heap.size w w1):=Hb.out.trans (hb1.mono Hb.out.size)
   clear hv1 hb1
   go_wp2
   go_ret
   exact⟨_,rfl,HV1.out,Hb1.out⟩
  ·rw[show (fun (x y:Mo)=>if p.e=0 then !x.on && Ep y p.slot else if p.e=6 then x.on || y.on else true)=(fun _ _=>true) from by funext x y;rw[if_neg h,if_neg h6]]
   have h':(p.e==6)=false:=by simpa using h6
   have HI:Hid (RuF (w.alloc op) _ _):=Um (w.alloc op)
   clear h h6
   go_enter Tryz.func129,Tryz.ntmps129
   go_wp2_with fail
   go_ret
   rw[<- hop]
   exact⟨_,rfl,HI.out,Hb.out⟩
set_option maxHeartbeats 1600000 in
theorem rule_any(p:Pst)(aK:Option Addr)(cK:Nat)(w:World) :
  Calls Tryz.prog 90 #[.agg #[O J p.task,O J p.c.kind,O J p.c.a,O J p.c.b,O J p.c.time,O J p.c.bk,O J p.c.slot,O J p.fro,O J p.to,O J p.e,O J p.slot,O J p.n,Y aK p.keys.length cK]] w (RuP w (U8 p)):=by
 obtain⟨op,hop⟩:∃ o:Obj,o=.cells #[O J p.task,O J p.c.kind,O J p.c.a,O J p.c.b,O J p.c.time,O J p.c.bk,O J p.c.slot,O J p.fro,O J p.to,O J p.e,O J p.slot,O J p.n,Y aK p.keys.length cK] 78:=⟨_,rfl⟩
 have Hb:Hid (Below w.heap.size w (w.alloc op)):=Aa _ _
 have HB:Hid ((w.alloc op).heap[w.heap.size]?=some op):=heap_alloc_new _ _
 have lP:Hid ((w.alloc op).rangeAt w.heap.size 0 (p.enc aK cK)):=by
  have h:=HB.out
  subst hop
  exact Ag h rfl
 rw[hop] at lP
 obtain⟨g,hg⟩:∃ g,g=U8 p:=⟨_,rfl⟩
 rw[<- hg]
 by_cases h1:p.c.kind=1
 ·have HC:Hid (∀ W,Calls Tryz.prog 128 #[.agg #[O J p.task,O J p.c.kind,O J p.c.a,O J p.c.b,O J p.c.time,O J p.c.bk,O J p.c.slot,O J p.fro,O J p.to,O J p.e,O J p.slot,O J p.n,Y aK p.keys.length cK]] W (RuP W g)):=by
   show ∀ W,_
   rw[show g=(fun x y=>if p.e=0 then (Ep x p.slot && Dk x) || (Ep y p.slot && Dk y) else !Dk x || !Dk y) from by rw[hg];funext x y;unfold U8;rw[if_pos h1]]
   exact rLook p aK cK
  have n1:(p.c.kind==1)=true:=by simpa using h1
  clear h1 hg
  go_enter Tryz.func90,Tryz.ntmps90
  go_wp2_with (refine wl_P rfl _ rfl rfl lP.out ?_)
  rw[<- hop]
  refine(HC.out (w.alloc op)).mono ?_
  rintro e w1 ⟨v1,rfl,hv1,hb1⟩
  obtain⟨F1,caps1,rfl,-,-⟩:=id hv1.ex
  have HV1:Hid (RuF w1 _ _):=hv1
  have Hb1:Hid (Below w.heap.size w w1):=Hb.out.trans (hb1.mono Hb.out.size)
  clear hv1 hb1
  go_wp2
  go_ret
  exact⟨_,rfl,HV1.out,Hb1.out⟩
 have n1:(p.c.kind==1)=false:=by simpa using h1
 by_cases h2:p.c.kind=2
 ·have HC:Hid (∀ W,Calls Tryz.prog 129 #[.agg #[O J p.task,O J p.c.kind,O J p.c.a,O J p.c.b,O J p.c.time,O J p.c.bk,O J p.c.slot,O J p.fro,O J p.to,O J p.e,O J p.slot,O J p.n,Y aK p.keys.length cK]] W (RuP W g)):=by
   show ∀ W,_
   rw[show g=(fun x y=>if p.e=0 then !x.on && Ep y p.slot else if p.e=6 then x.on || y.on else true) from by rw[hg];funext x y;unfold U8;rw[if_neg h1,if_pos h2]]
   exact rAdd p aK cK
  have n2:(p.c.kind==2)=true:=by simpa using h2
  clear h2 h1 hg
  go_enter Tryz.func90,Tryz.ntmps90
  go_wp2_with (refine wl_P rfl _ rfl rfl lP.out ?_)
  rw[<- hop]
  refine(HC.out (w.alloc op)).mono ?_
  rintro e w1 ⟨v1,rfl,hv1,hb1⟩
  obtain⟨F1,caps1,rfl,-,-⟩:=id hv1.ex
  have HV1:Hid (RuF w1 _ _):=hv1
  have Hb1:Hid (Below w.heap.size w w1):=Hb.out.trans (hb1.mono Hb.out.size)
  clear hv1 hb1
  go_wp2
  go_ret
  exact⟨_,rfl,HV1.out,Hb1.out⟩
 have n2:(p.c.kind==2)=false:=by simpa using h2
 by_cases h3:p.c.kind=3
 ·have HC:Hid (∀ W,Calls Tryz.prog 130 #[.agg #[O J p.task,O J p.c.kind,O J p.c.a,O J p.c.b,O J p.c.time,O J p.c.bk,O J p.c.slot,O J p.fro,O J p.to,O J p.e,O J p.slot,O J p.n,Y aK p.keys.length cK]] W (RuP W g)):=by
   show ∀ W,_
   rw[show g=(fun x y=>if p.e=0 then x.on && !Ep y x.fl.slot else !x.on || !y.on) from by rw[hg];funext x y;unfold U8;rw[if_neg h1,if_neg h2,if_pos h3]]
   exact rDrop p aK cK
  have n3:(p.c.kind==3)=true:=by simpa using h3
  clear h3 h1 h2 hg
  go_enter Tryz.func90,Tryz.ntmps90
  go_wp2_with (refine wl_P rfl _ rfl rfl lP.out ?_)
  rw[<- hop]
  refine(HC.out (w.alloc op)).mono ?_
  rintro e w1 ⟨v1,rfl,hv1,hb1⟩
  obtain⟨F1,caps1,rfl,-,-⟩:=id hv1.ex
  have HV1:Hid (RuF w1 _ _):=hv1
  have Hb1:Hid (Below w.heap.size w w1):=Hb.out.trans (hb1.mono Hb.out.size)
  clear hv1 hb1
  go_wp2
  go_ret
  exact⟨_,rfl,HV1.out,Hb1.out⟩
 have n3:(p.c.kind==3)=false:=by simpa using h3
 have hg2:g=(fun _ _=>true):=by rw[hg];funext x y;unfold U8;rw[if_neg h1,if_neg h2,if_neg h3]
 have HI:Hid (RuF (w.alloc op) (.func (.func 131) #[] #[]) g):=by show RuF _ _ _;rw[hg2];exact Um (w.alloc op)
 clear h1 h2 h3 hg hg2
 go_enter Tryz.func90,Tryz.ntmps90
 go_wp2_with (refine wl_P rfl _ rfl rfl lP.out ?_)
 go_ret
 rw[<- hop]
 exact⟨_,rfl,HI.out,Hb.out⟩
end
section
open Go.ChangeShapes Go.WideShapes Go.ChangeAt Go.RowKit Go.Joins Go.Deep Go.Maps
theorem Zf{w w':World}{B o:Nat}{vs:List Value}(h:w.rangeAt B o vs)(e:w'.heap[B]?=w.heap[B]?):w'.rangeAt B o vs:=fun j v hv=>(World.cell?_of_block e).trans (h j v hv)
theorem Jk{w w1:World}{Z:Nat->Prop}{B o:Nat}{vs:List Value}(h:Fine w w1 Z)(hB:Z B\/w.heap.size<=B):Fine w (w1.setCells B o vs) Z :=
 ⟨(Aw _ _ _).1.trans h.os,(Aw _ _ _).2.1.trans h.tape,(Aw _ _ _).2.2.trans h.output,by rw[setCells_size];exact h.size,fun k h1 h2=>(Ad (fun e=>hB.elim (fun hz=>h2 (by rw[e];exact hz)) (fun hz=>by omega)) _ _ _).trans (h.block k h1 h2)⟩
structure Tn(w wr:World)(B A a b:Nat)(ka kb:Int)(W:Wd)(x:Mo)(v:Array Value):Prop where
 bx:wr.heap[w.heap.size]?=some (.cells v 28 (0,0))
 wi:WIn a b wr (.agg v) W
 k:wr.heap[w.heap.size+1]?=some (.cells #[O J ka,O J kb] 30 (0,0))
 m:wr.heap[A]?=some (.cells #[.bool x.on,O J x.fl.a,O J x.fl.b,O J x.fl.slot,O J x.fl.unt,O J x.now] 139 (0,0))
 fine:Fine w wr (fun j=>j=B)
 out:¬ (a<=B/\B<b)/\¬ (a<=w.heap.size/\w.heap.size<b)/\¬ (a<=A/\A<b)/\b<=wr.heap.size
 ab:w.heap.size+1<A/\B<w.heap.size
theorem Tn.step{w wr w':World}{B A a b:Nat}{ka kb:Int}{W:Wd}{x:Mo}{v:Array Value}{Z:Nat->Prop}(h:Tn w wr B A a b ka kb W x v)(hf:Fine wr w' Z)(hz:∀ j,Z j->j=B\/wr.heap.size<=j):Tn w w' B A a b ka kb W x v:=by
 have hs:∀ j,j<wr.heap.size->j≠B->w'.heap[j]?=wr.heap[j]?:=fun j h1 h2=>hf.block j h1 (fun h3=>(hz j h3).elim h2 (fun h4=>by omega))
 have h1:=h.ab
 have h2:=h.out
 refine⟨(hs _ (lt_of_block h.bx) (by omega)).trans h.bx,h.wi.same fun j h3 h4=>hs j (by omega) (fun e=>h2.1 ⟨by omega,by omega⟩),(hs _ (lt_of_block h.k) (by omega)).trans h.k,(hs _ (lt_of_block h.m) (by omega)).trans h.m,?_,⟨h2.1,h2.2.1,h2.2.2.1,Nat.le_trans h2.2.2.2 hf.size⟩,h1⟩
 exact h.fine.trans hf fun k hk hz'=>(hz k hz').elim id (fun h4=>by have:=h.fine.size;omega)
theorem Tn.below{w wr w':World}{B A a b:Nat}{ka kb:Int}{W:Wd}{x:Mo}{v:Array Value}(h:Tn w wr B A a b ka kb W x v)(hb:Below wr.heap.size wr w'):Tn w w' B A a b ka kb W x v :=
 h.step (Fine.of_below (fun _=>False) hb) (fun j h=>h.elim)
set_option maxHeartbeats 4000000 in
theorem a3l(F:Nat)(caps:Array Value)(hF:∀ args W,(callFunc F args).run Tryz.prog W=.ok (.enter F args) W)(B:Nat)(Jq:Nat->World->Prop){W0:Wd}(I:WInv W0)(l:List Pk)(aP:Option Addr)(cP:Nat)(ka kb:Int)(a0 b0:Nat)(aS aH aF aL:Option Addr)(cS cH cF cL:Nat)(aT:Option Addr)(cT:Nat)(w:World)
  (hv:WIn a0 b0 w (.agg #[Y aS W0.m.slots.length cS,Y aH W0.m.heads.length cH,Y aF W0.m.free.length cF,Y aL W0.m.locks.length cL,O J W0.m.now,Y aT W0.ts.length cT]) W0) (hb0:b0<=w.heap.size) (hB0:¬ (a0<=B/\B<b0)) (hB:B<w.heap.size) (hr:PRow w aP cP l) (hrl:0<l.length->∀ ad,aP=some ad->ad.block≠B) (hl:l.length<=300)
  (hJ:Jq 0 w) (hJk:∀ k W W',Jq k W->Fine W W' (fun j=>w.heap.size<=j)->Jq k W')
  (step:∀ (k:Nat) (x y:Mo) W,Jq k W->k<l.length->x=moAt (runW W0 (l.take k)).m ka kb->y=moAt (runW W0 (l.take (k+1))).m ka kb->Calls Tryz.prog F (#[O J k,.agg #[.bool x.on,O J x.fl.a,O J x.fl.b,O J x.fl.slot,O J x.fl.unt,O J x.now],.agg #[.bool y.on,O J y.fl.a,O J y.fl.b,O J y.fl.slot,O J y.fl.unt,O J y.now]] ++ caps) W fun e W'=>e=.returned (.tuple #[])/\Jq (k+1) W'/\Fine W W' (fun j=>j=B)) :
  Calls Tryz.prog 91 #[.agg #[Y aS W0.m.slots.length cS,Y aH W0.m.heads.length cH,Y aF W0.m.free.length cF,Y aL W0.m.locks.length cL,O J W0.m.now,Y aT W0.ts.length cT],Y aP l.length cP,.agg #[O J ka,O J kb],.func (.func F) #[] caps] w fun e w'=>e=.returned (O J 0)/\Jq l.length w'/\Fine w w' (fun j=>j=B):=by
 have m1:=hr.max
 have m2:=hr.le
 have HFn:Hid (∀ args W,(callFunc F args).run Tryz.prog W=.ok (.enter F args) W):=hF
 have HI:Hid (WInv W0):=I
 have HR:Hid (PRow w aP cP l):=hr
 have HRl:Hid (0<l.length->∀ ad,aP=some ad->ad.block≠B/\ad.block<w.heap.size):=fun h0 ad e=>⟨hrl h0 ad e,by
  rcases hr.at_ with h|⟨b,o,e',hc⟩
  ·omega
  ·rw[e'] at e;cases e;exact cell_lt (hc 0 h0 0 _ rfl)⟩
 have HJk:Hid (∀ k W W',Jq k W->Fine W W' (fun j=>w.heap.size<=j)->Jq k W'):=hJk
 have HSt:Hid (∀ (k:Nat) (x y:Mo) W,Jq k W->k<l.length->x=moAt (runW W0 (l.take k)).m ka kb->y=moAt (runW W0 (l.take (k+1))).m ka kb->Calls Tryz.prog F (#[O J k,.agg #[.bool x.on,O J x.fl.a,O J x.fl.b,O J x.fl.slot,O J x.fl.unt,O J x.now],.agg #[.bool y.on,O J y.fl.a,O J y.fl.b,O J y.fl.slot,O J y.fl.unt,O J y.now]] ++ caps) W fun e W'=>e=.returned (.tuple #[])/\Jq (k+1) W'/\Fine W W' (fun j=>j=B)):=step
 obtain⟨ox,hox⟩:∃ o:Obj,o=.cells #[Y aS W0.m.slots.length cS,Y aH W0.m.heads.length cH,Y aF W0.m.free.length cF,Y aL W0.m.locks.length cL,O J W0.m.now,Y aT W0.ts.length cT] 28:=⟨_,rfl⟩
 obtain⟨ok,hok⟩:∃ o:Obj,o=.cells #[O J ka,O J kb] 30:=⟨_,rfl⟩
 have b0':Below w.heap.size w ((w.alloc ox).alloc ok):=below_alloc2 w ox ok
 have HX0:Hid (((w.alloc ox).alloc ok).heap[w.heap.size]?=some ox):=by show _=_;rw[Below.heap_alloc _ _ _ (by simp),heap_alloc_new]
 have HK0:Hid (((w.alloc ox).alloc ok).heap[w.heap.size+1]?=some ok):=by
  have:=heap_alloc_new (w.alloc ox) ok
  rwa [show (w.alloc ox).heap.size=w.heap.size+1 by simp] at this
 have HW0:Hid (WIn a0 b0 ((w.alloc ox).alloc ok) (.agg #[Y aS W0.m.slots.length cS,Y aH W0.m.heads.length cH,Y aF W0.m.free.length cF,Y aL W0.m.locks.length cL,O J W0.m.now,Y aT W0.ts.length cT]) W0):=hv.same fun j h1 h2=>b0'.block j (by omega)
 have Hb0:Hid (Below w.heap.size w ((w.alloc ox).alloc ok)):=b0'
 have HJ0:Hid (Jq 0 w):=hJ
 have HO:Hid (b0<=w.heap.size/\¬ (a0<=B/\B<b0)/\B<w.heap.size):=⟨hb0,hB0,hB⟩
 have l6:Hid (((w.alloc (.cells #[Y aS W0.m.slots.length cS,Y aH W0.m.heads.length cH,Y aF W0.m.free.length cF,Y aL W0.m.locks.length cL,O J W0.m.now,Y aT W0.ts.length cT] 28)).alloc (.cells #[O J ka,O J kb] 30)).rangeAt w.heap.size 0 [Y aS W0.m.slots.length cS,Y aH W0.m.heads.length cH,Y aF W0.m.free.length cF,Y aL W0.m.locks.length cL,O J W0.m.now,Y aT W0.ts.length cT]):=by subst hox hok;exact Ag HX0.out rfl
 clear hF I hr hrl hJk step hv hJ hb0 hB0 hB b0'
 go_enter Tryz.func91,Tryz.ntmps91
 go_wp2_with (refine wl_6 rfl _ rfl rfl l6.out ?_)
 rw[<- hox,<- hok]
 rw[<- hox,<- hok] at l6
 clear l6
 generalize (w.alloc ox).alloc ok=V0 at *
 subst hox hok
 refine(Vf HI.out ka kb (HW0.out V0 (fun _ _ _=>rfl))).mono ?_
 rintro e w1 ⟨rfl,hb1⟩
 obtain⟨x0,hx0⟩:∃ x,x=moAt W0.m ka kb:=⟨_,rfl⟩
 rw[<- hx0]
 have HXm:Hid (x0=moAt (runW W0 (l.take 0)).m ka kb):=hx0
 obtain⟨oa,hoa⟩:∃ o:Obj,o=.cells #[.bool x0.on,O J x0.fl.a,O J x0.fl.b,O J x0.fl.slot,O J x0.fl.unt,O J x0.now] 139:=⟨_,rfl⟩
 have HT:Hid (Tn w (w1.alloc oa) B w1.heap.size a0 b0 ka kb W0 x0 #[Y aS W0.m.slots.length cS,Y aH W0.m.heads.length cH,Y aF W0.m.free.length cF,Y aL W0.m.locks.length cL,O J W0.m.now,Y aT W0.ts.length cT]):=by
  have hb:Below V0.heap.size V0 (w1.alloc oa):=hb1.alloc hb1.size oa
  have h1:=Hb0.out.size
  have h2:=hb1.size
  have h3:=lt_of_block HK0.out
  have h4:=HO.out
  refine⟨(hb.block _ (lt_of_block HX0.out)).trans HX0.out,HW0.out.same fun j h5 h6=>hb.block j (by omega),(hb.block _ h3).trans HK0.out,?_,Fine.of_below _ (Hb0.out.trans (hb.mono h1)),⟨h4.2.1,by omega,by omega,by simp;omega⟩,⟨by omega,h4.2.2⟩⟩
  rw[hoa];exact heap_alloc_new _ _
 have HJ1:Hid (Jq 0 (w1.alloc oa)):=HJk.out 0 w _ HJ0.out (Fine.mono (Fine.of_below (fun _=>False) (Hb0.out.trans ((hb1.alloc hb1.size oa).mono Hb0.out.size))) (fun _ h=>h.elim))
 clear hx0 hb1 HX0 HK0 HW0 Hb0 HJ0 HO
 go_wp2_with fail
 rw[<- hoa]
 generalize w1.heap.size=A at *
 generalize w1.alloc oa=V1 at *
 go_loopw [28] (fun i wr=>∃ (k:Nat) (W:Wd) (x:Mo) (a b:Nat) (aS aH aF aL:Option Addr) (cS cH cF cL:Nat) (aT:Option Addr) (cT:Nat),k<=l.length/\i=O J k/\Hid (W=runW W0 (l.take k))/\Hid (x=moAt (runW W0 (l.take k)).m ka kb)/\Hid (WInv W)/\Hid (Tn w wr B A a b ka kb W x #[Y aS W.m.slots.length cS,Y aH W.m.heads.length cH,Y aF W.m.free.length cF,Y aL W.m.locks.length cL,O J W.m.now,Y aT W.ts.length cT])/\Hid (Jq k wr)) (fun i _=>l.length - (intOf i).toNat)
 case atStart=>exact⟨0,W0,x0,a0,b0,aS,aH,aF,aL,cS,cH,cF,cL,aT,cT,Nat.zero_le _,rfl,rfl,HXm,HI,HT,HJ1⟩
 case round =>
  clear HXm HI HT HJ1
  obtain⟨k,W,x0,a,b,aS,aH,aF,aL,cS,cH,cF,cL,aT,cT,hk,rfl,HWk,Hx0,HI,HT,HJ⟩:=hrel
  by_cases hlt:k<l.length
  ·rcases HR.out.at_ with h0|⟨bP,oP,rfl,hx⟩
   ·omega
   obtain⟨hbB,hbw⟩:=HRl.out (by omega) _ rfl
   have lX:Hid (wr.rangeAt bP (oP+k*9) [O J (l[k]).task,.bool (l[k]).step,.bool (l[k]).tick,O J (l[k]).c.kind,O J (l[k]).c.a,O J (l[k]).c.b,O J (l[k]).c.time,O J (l[k]).c.bk,O J (l[k]).c.slot]):=Zf (hx k hlt) (HT.out.fine.block bP hbw hbB)
   clear hx hbB hbw
   obtain⟨x,hx⟩:∃ x,x=l[k]:=⟨_,rfl⟩
   rw[<- hx] at lX
   have Hx:Hid (x=l[k]):=hx
   clear hx
   obtain⟨op,hop⟩:∃ o:Obj,o=.cells #[O J x.task,.bool x.step,.bool x.tick,O J x.c.kind,O J x.c.a,O J x.c.b,O J x.c.time,O J x.c.bk,O J x.c.slot] 34:=⟨_,rfl⟩
   have HP2:Hid ((wr.alloc op).heap[wr.heap.size]?=some op):=heap_alloc_new _ _
   have HT2:Hid (Tn w (wr.alloc op) B A a b ka kb W x0 #[Y aS W.m.slots.length cS,Y aH W.m.heads.length cH,Y aF W.m.free.length cF,Y aL W.m.locks.length cL,O J W.m.now,Y aT W.ts.length cT]):=HT.out.below (Aa _ _)
   have HJ2:Hid (Jq k (wr.alloc op)):=HJk.out k wr _ HJ.out (Fine.of_below _ (Aa _ _))
   subst hop
   have l6:Hid ((wr.alloc (.cells #[O J x.task,.bool x.step,.bool x.tick,O J x.c.kind,O J x.c.a,O J x.c.b,O J x.c.time,O J x.c.bk,O J x.c.slot] 34)).rangeAt w.heap.size 0 [Y aS W.m.slots.length cS,Y aH W.m.heads.length cH,Y aF W.m.free.length cF,Y aL W.m.locks.length cL,O J W.m.now,Y aT W.ts.length cT]):=Ag HT2.out.bx rfl
   have lX2:Hid ((wr.alloc (.cells #[O J x.task,.bool x.step,.bool x.tick,O J x.c.kind,O J x.c.a,O J x.c.b,O J x.c.time,O J x.c.bk,O J x.c.slot] 34)).rangeAt wr.heap.size 0 [O J x.task,.bool x.step,.bool x.tick,O J x.c.kind,O J x.c.a,O J x.c.b,O J x.c.time,O J x.c.bk,O J x.c.slot]):=Ag HP2.out rfl
   clear HT HJ
   go_wp2_with (first|refine wl_X rfl _ rfl rfl lX.out ?_|refine wl_6 rfl _ rfl rfl l6.out ?_|refine wl_X rfl _ rfl rfl lX2.out ?_)
   clear l6 lX2 lX HP2
   generalize World.alloc wr _=W2 at *
   refine(a0c HI.out (x:=x) (HT2.out.wi W2 (fun _ _ _=>rfl))).mono ?_
   rintro e w3 ⟨v3,rfl,hv3,hb3⟩
   obtain⟨E,hE⟩:∃ E,E=doE W x:=⟨_,rfl⟩
   rw[<- hE] at hv3 ⊢
   have HE:Hid (E=doE W x):=hE
   have HNx:Hid (runW W0 (l.take (k+1))=Kw W x):=by
    show _=_
    rw[Ya hlt,<- HWk.out,<- Hx.out]
   have hz3:=hb3.size
   clear hE Hx HWk
   by_cases hE0:E=0
   focus
    rw[if_pos hE0] at hv3
    obtain⟨Wn,hWn⟩:∃ Wn,Wn=doW W x:=⟨_,rfl⟩
    rw[<- hWn] at hv3
    have HIn:Hid (WInv Wn):=by show WInv Wn;rw[hWn];exact J4 HI.out (HE.out.symm.trans hE0)
    have HWn:Hid (Wn=runW W0 (l.take (k+1))):=by show _=_;rw[HNx.out];unfold Kw;rw[<- HE.out,if_pos hE0,hWn]
    obtain⟨aS3,aH3,aF3,aL3,cS3,cH3,cF3,cL3,aT3,cT3,lt3,rfl,-⟩:=id hv3
    obtain⟨on,hon⟩:∃ o:Obj,o=.cells #[Y aS3 Wn.m.slots.length cS3,Y aH3 Wn.m.heads.length cH3,Y aF3 Wn.m.free.length cF3,Y aL3 Wn.m.locks.length cL3,O J Wn.m.now,Y aT3 Wn.ts.length cT3] 28:=⟨_,rfl⟩
    have hb4:Below W2.heap.size W2 (w3.alloc on):=hb3.alloc hb3.size on
    have HN4:Hid ((w3.alloc on).heap[w3.heap.size]?=some on):=heap_alloc_new _ _
    have HT4:Hid (Tn w (w3.alloc on) B A a b ka kb W x0 #[Y aS W.m.slots.length cS,Y aH W.m.heads.length cH,Y aF W.m.free.length cF,Y aL W.m.locks.length cL,O J W.m.now,Y aT W.ts.length cT]):=HT2.out.below hb4
    have HJ4:Hid (Jq k (w3.alloc on)):=HJk.out k W2 _ HJ2.out (Fine.of_below _ hb4)
    have t6:Hid ((w3.alloc on).there w.heap.size 0 6):=Bo HT4.out.bx (by simp)
    obtain⟨W4,hW4⟩:∃ W4,W4=(w3.alloc on).setCells w.heap.size 0 [Y aS3 Wn.m.slots.length cS3,Y aH3 Wn.m.heads.length cH3,Y aF3 Wn.m.free.length cF3,Y aL3 Wn.m.locks.length cL3,O J Wn.m.now,Y aT3 Wn.ts.length cT3]:=⟨_,rfl⟩
    have ho4:∀ j,j≠w.heap.size->W4.heap[j]?=(w3.alloc on).heap[j]?:=fun j hj=>by rw[hW4];exact Ad hj _ _ _
    have hs4:W4.heap.size=(w3.alloc on).heap.size:=by rw[hW4];exact setCells_size _ _ _
    have HT5:Hid (Tn w W4 B A W2.heap.size w3.heap.size ka kb Wn x0 #[Y aS3 Wn.m.slots.length cS3,Y aH3 Wn.m.heads.length cH3,Y aF3 Wn.m.free.length cF3,Y aL3 Wn.m.locks.length cL3,O J Wn.m.now,Y aT3 Wn.ts.length cT3]):=by
     have h1:=HT4.out.ab
     have h2:=lt_of_block HT2.out.m
     have h3:=lt_of_block HT2.out.bx
     have h4:(w3.alloc on).heap.size=w3.heap.size+1:=by simp
     refine⟨by rw[hW4];exact Bc HT4.out.bx rfl,hv3.wIn.same fun j h5 h6=>(ho4 j (by omega)).trans ((Aa _ _).block j h6),(ho4 _ (by omega)).trans HT4.out.k,(ho4 _ (by omega)).trans HT4.out.m,by rw[hW4];exact Jk HT4.out.fine (.inr (Nat.le_refl _)),⟨by omega,by omega,by omega,by omega⟩,h1⟩
    have HJ5:Hid (Jq k W4):=HJk.out k _ W4 HJ4.out (by rw[hW4];exact Jk (Fine.refl _ _) (.inl (Nat.le_refl _)))
    have l6:Hid (W4.rangeAt w.heap.size 0 [Y aS3 Wn.m.slots.length cS3,Y aH3 Wn.m.heads.length cH3,Y aF3 Wn.m.free.length cF3,Y aL3 Wn.m.locks.length cL3,O J Wn.m.now,Y aT3 Wn.ts.length cT3]):=Ag HT5.out.bx rfl
    have hk0:W4.cell? ⟨w.heap.size+1,0,none⟩=some (O J ka):=by rw[cell_of_block HT5.out.k];rfl
    have hk1:W4.cell? ⟨w.heap.size+1,1,none⟩=some (O J kb):=by rw[cell_of_block HT5.out.k];rfl
    subst hon
    have l7:Hid ((w3.alloc (.cells #[Y aS3 Wn.m.slots.length cS3,Y aH3 Wn.m.heads.length cH3,Y aF3 Wn.m.free.length cF3,Y aL3 Wn.m.locks.length cL3,O J Wn.m.now,Y aT3 Wn.ts.length cT3] 28)).rangeAt w3.heap.size 0 [Y aS3 Wn.m.slots.length cS3,Y aH3 Wn.m.heads.length cH3,Y aF3 Wn.m.free.length cF3,Y aL3 Wn.m.locks.length cL3,O J Wn.m.now,Y aT3 Wn.ts.length cT3]):=Ag HN4.out rfl
    clear hv3 hb3 hb4 HT2 HJ2 HN4 HT4 HJ4 ho4 hs4 hWn HE HNx HI
    subst hE0
    go_wp2_with (first|refine wl_6 rfl _ rfl rfl l7.out ?_|(refine ws_6 rfl _ _ rfl rfl rfl t6.out (by kernel_rfl) ?_;rw[<- hW4];clear hW4 t6)|refine wl_6 rfl _ rfl rfl l6.out ?_)
    clear l6 l7 hk0 hk1
   rotate_left
   focus
    rw[if_neg hE0] at hv3
    obtain⟨aSq,aHq,aFq,aLq,cSq,cHq,cFq,cLq,aTq,cTq,_,rfl,-⟩:=hv3
    have h':(E==0)=false:=by simpa using hE0
    obtain⟨aS3,rfl⟩:∃ y,y=aS:=⟨_,rfl⟩
    obtain⟨aH3,rfl⟩:∃ y,y=aH:=⟨_,rfl⟩
    obtain⟨aF3,rfl⟩:∃ y,y=aF:=⟨_,rfl⟩
    obtain⟨aL3,rfl⟩:∃ y,y=aL:=⟨_,rfl⟩
    obtain⟨cS3,rfl⟩:∃ y,y=cS:=⟨_,rfl⟩
    obtain⟨cH3,rfl⟩:∃ y,y=cH:=⟨_,rfl⟩
    obtain⟨cF3,rfl⟩:∃ y,y=cF:=⟨_,rfl⟩
    obtain⟨cL3,rfl⟩:∃ y,y=cL:=⟨_,rfl⟩
    obtain⟨aT3,rfl⟩:∃ y,y=aT:=⟨_,rfl⟩
    obtain⟨cT3,rfl⟩:∃ y,y=cT:=⟨_,rfl⟩
    obtain⟨Wn,rfl⟩:∃ y,y=W:=⟨_,rfl⟩
    have HIn:Hid (WInv Wn):=HI
    have HWn:Hid (Wn=runW W0 (l.take (k+1))):=by show _=_;rw[HNx.out];unfold Kw;rw[<- HE.out,if_neg hE0]
    obtain⟨on,hon⟩:∃ o:Obj,o=.cells #[Y aSq w0W.m.slots.length cSq,Y aHq w0W.m.heads.length cHq,Y aFq w0W.m.free.length cFq,Y aLq w0W.m.locks.length cLq,O J w0W.m.now,Y aTq w0W.ts.length cTq] 28:=⟨_,rfl⟩
    have HT5:Hid (Tn w (w3.alloc on) B A a b ka kb Wn x0 #[Y aS3 Wn.m.slots.length cS3,Y aH3 Wn.m.heads.length cH3,Y aF3 Wn.m.free.length cF3,Y aL3 Wn.m.locks.length cL3,O J Wn.m.now,Y aT3 Wn.ts.length cT3]):=HT2.out.below (hb3.alloc hb3.size on)
    have HJ5:Hid (Jq k (w3.alloc on)):=HJk.out k W2 _ HJ2.out (Fine.of_below _ (hb3.alloc hb3.size on))
    have l6:Hid ((w3.alloc on).rangeAt w.heap.size 0 [Y aS3 Wn.m.slots.length cS3,Y aH3 Wn.m.heads.length cH3,Y aF3 Wn.m.free.length cF3,Y aL3 Wn.m.locks.length cL3,O J Wn.m.now,Y aT3 Wn.ts.length cT3]):=Ag HT5.out.bx rfl
    have hk0:(w3.alloc on).cell? ⟨w.heap.size+1,0,none⟩=some (O J ka):=by rw[cell_of_block HT5.out.k];rfl
    have hk1:(w3.alloc on).cell? ⟨w.heap.size+1,1,none⟩=some (O J kb):=by rw[cell_of_block HT5.out.k];rfl
    rw[hon] at l6 hk0 hk1
    clear hb3 HT2 HJ2 HE HNx HI hE0
    go_wp2_with (refine wl_6 rfl _ rfl rfl l6.out ?_)
    clear l6 hk0 hk1
    rw[<- hon]
    generalize w3.alloc on=W4 at *
    clear hon h'
   all_goals
    obtain⟨a4,b4,HT6⟩:∃ a4 b4,Hid (Tn w W4 B A a4 b4 ka kb Wn x0 #[Y aS3 Wn.m.slots.length cS3,Y aH3 Wn.m.heads.length cH3,Y aF3 Wn.m.free.length cF3,Y aL3 Wn.m.locks.length cL3,O J Wn.m.now,Y aT3 Wn.ts.length cT3]):=⟨_,_,HT5⟩
    clear HT5
    refine(Vf HIn.out ka kb (HT6.out.wi W4 (fun _ _ _=>rfl))).mono ?_
    rintro e w5 ⟨rfl,hb5⟩
    obtain⟨y,hy⟩:∃ y,y=moAt Wn.m ka kb:=⟨_,rfl⟩
    rw[<- hy]
    have Hy:Hid (y=moAt (runW W0 (l.take (k+1))).m ka kb):=by show _=_;rw[<- HWn.out];exact hy
    obtain⟨ob,hob⟩:∃ o:Obj,o=.cells #[.bool y.on,O J y.fl.a,O J y.fl.b,O J y.fl.slot,O J y.fl.unt,O J y.now] 139:=⟨_,rfl⟩
    have hb6:Below W4.heap.size W4 (w5.alloc ob):=hb5.alloc hb5.size ob
    have HT7:Hid (Tn w (w5.alloc ob) B A a4 b4 ka kb Wn x0 #[Y aS3 Wn.m.slots.length cS3,Y aH3 Wn.m.heads.length cH3,Y aF3 Wn.m.free.length cF3,Y aL3 Wn.m.locks.length cL3,O J Wn.m.now,Y aT3 Wn.ts.length cT3]):=HT6.out.below hb6
    have HJ7:Hid (Jq k (w5.alloc ob)):=HJk.out k W4 _ HJ5.out (Fine.of_below _ hb6)
    have HB7:Hid ((w5.alloc ob).heap[w5.heap.size]?=some ob):=heap_alloc_new _ _
    have HBz:Hid (w.heap.size<w5.heap.size):=Nat.lt_of_lt_of_le (lt_of_block HT6.out.bx) hb5.size
    subst hob
    have lA:Hid ((w5.alloc (.cells #[.bool y.on,O J y.fl.a,O J y.fl.b,O J y.fl.slot,O J y.fl.unt,O J y.now] 139)).rangeAt A 0 [.bool x0.on,O J x0.fl.a,O J x0.fl.b,O J x0.fl.slot,O J x0.fl.unt,O J x0.now]):=Ag HT7.out.m rfl
    have lB:Hid ((w5.alloc (.cells #[.bool y.on,O J y.fl.a,O J y.fl.b,O J y.fl.slot,O J y.fl.unt,O J y.now] 139)).rangeAt w5.heap.size 0 [.bool y.on,O J y.fl.a,O J y.fl.b,O J y.fl.slot,O J y.fl.unt,O J y.now]):=Ag HB7.out rfl
    clear hb5 hb6 hy HT6 HJ5
    go_wp2_with (first|refine wl_mo rfl _ rfl rfl lA.out ?_|refine wl_mo rfl _ rfl rfl lB.out ?_)
    clear lA lB
    generalize World.alloc w5 _=W7 at *
    generalize w5.heap.size=BB at *
    rw[HFn.out]
    refine(HSt.out k x0 y W7 HJ7.out hlt Hx0.out Hy.out).mono ?_
    rintro e w8 ⟨rfl,hJ8,hf8⟩
    have HT8:Hid (Tn w w8 B A a4 b4 ka kb Wn x0 #[Y aS3 Wn.m.slots.length cS3,Y aH3 Wn.m.heads.length cH3,Y aF3 Wn.m.free.length cF3,Y aL3 Wn.m.locks.length cL3,O J Wn.m.now,Y aT3 Wn.ts.length cT3]):=HT7.out.step hf8 (fun j h=>.inl h)
    have hB8:w8.heap[BB]?=some (.cells #[.bool y.on,O J y.fl.a,O J y.fl.b,O J y.fl.slot,O J y.fl.unt,O J y.now] 139 (0,0)):=(hf8.block BB (lt_of_block HB7.out) (by have:=HT7.out.ab.2;have:=HBz.out;omega)).trans HB7.out
    have lB:Hid (w8.rangeAt BB 0 [.bool y.on,O J y.fl.a,O J y.fl.b,O J y.fl.slot,O J y.fl.unt,O J y.now]):=Ag hB8 rfl
    have t6:Hid (w8.there A 0 6):=Bo HT8.out.m (by simp)
    obtain⟨W9,hW9⟩:∃ W9,W9=w8.setCells A 0 [.bool y.on,O J y.fl.a,O J y.fl.b,O J y.fl.slot,O J y.fl.unt,O J y.now]:=⟨_,rfl⟩
    have ho9:∀ j,j≠A->W9.heap[j]?=w8.heap[j]?:=fun j hj=>by rw[hW9];exact Ad hj _ _ _
    have HT9:Hid (Tn w W9 B A a4 b4 ka kb Wn y #[Y aS3 Wn.m.slots.length cS3,Y aH3 Wn.m.heads.length cH3,Y aF3 Wn.m.free.length cF3,Y aL3 Wn.m.locks.length cL3,O J Wn.m.now,Y aT3 Wn.ts.length cT3]):=by
     have h1:=HT8.out.ab
     have h2:=HT8.out.out
     refine⟨(ho9 _ (by omega)).trans HT8.out.bx,HT8.out.wi.same fun j h3 h4=>ho9 j (fun e=>h2.2.2.1 ⟨by omega,by omega⟩),(ho9 _ (by omega)).trans HT8.out.k,by rw[hW9];exact Bc HT8.out.m rfl,by rw[hW9];exact Jk HT8.out.fine (.inr (by omega)),⟨h2.1,h2.2.1,h2.2.2.1,by rw[hW9,setCells_size];exact h2.2.2.2⟩,h1⟩
    have HJ9:Hid (Jq (k+1) W9):=HJk.out (k+1) w8 W9 hJ8 (by rw[hW9];exact Jk (Fine.refl _ _) (.inl (by have:=HT8.out.ab;omega)))
    clear hJ8 hf8 HT7 HJ7 HB7 HBz HT8 hB8 ho9
    go_wp2_with (first|refine wl_mo rfl _ rfl rfl lB.out ?_|(refine ws_mo rfl _ _ rfl rfl rfl t6.out (by kernel_rfl) ?_;rw[<- hW9];clear hW9 t6))
    go_roundw
    case rel=>exact⟨k+1,Wn,y,a4,b4,aS3,aH3,aF3,aL3,cS3,cH3,cF3,cL3,aT3,cT3,by omega,by go_num,HWn,Hy,HIn,HT9,HJ9⟩
    case measure=>simp[intOf];omega
  ·have hkE:k=l.length:=by omega
   have HJe:Hid (Jq l.length wr):=by rw[<- hkE];exact HJ
   go_wp2
   go_ret
   exact⟨rfl,HJe.out,HT.out.fine⟩
end
section
open Go.ChangeShapes Go.WideShapes Go.ChangeAt Go.RowKit Go.Joins Go.Deep Go.Maps
def Qa(p:Pst)(g:Mo->Mo->Bool)(f:Int)(i:Nat)(x y:Mo):Int:=if f=-1/\p.fro<=i/\g x y=true then i else f
def LitW(w:World)(B:Nat)(f:Int)(e:Ending)(w':World):Prop:=e=.returned (.tuple #[])/\w'.heap[B]?=some (.cells #[O J f] 3 (0,0))/\Fine w w' (fun j=>j=B)
set_option maxHeartbeats 1600000 in
theorem lit92(p:Pst)(aK:Option Addr)(cK B1 B2 B3:Nat)(f:Int)(i:Nat)(x y:Mo)(g:Mo->Mo->Bool)(v:Value)(w w0:World)(h1:w.heap[B1]?=some (.cells #[O J f] 3 (0,0)))(h2:w.heap[B2]?=some (.cells #[O J p.task,O J p.c.kind,O J p.c.a,O J p.c.b,O J p.c.time,O J p.c.bk,O J p.c.slot,O J p.fro,O J p.to,O J p.e,O J p.slot,O J p.n,Y aK p.keys.length cK] 78 (0,0)))(h3:w.heap[B3]?=some (.cells #[v] 135 (0,0)))(hv:RuF w0 v g)(hw:Below w0.heap.size w0 w) :
  Calls Tryz.prog 92 (#[O J i,.agg #[.bool x.on,O J x.fl.a,O J x.fl.b,O J x.fl.slot,O J x.fl.unt,O J x.now],.agg #[.bool y.on,O J y.fl.a,O J y.fl.b,O J y.fl.slot,O J y.fl.unt,O J y.now]] ++ #[.pointer (some ⟨B1,0,none⟩),.pointer (some ⟨B2,0,none⟩),.pointer (some ⟨B3,0,none⟩)]) w (LitW w B1 (Qa p g f i x y)):=by
 obtain⟨F,caps,rfl,hf1,hf2⟩:=hv.ex
 have HFn:Hid (∀ args W,(callFunc F args).run Tryz.prog W=.ok (.enter F args) W):=hf1
 have HP:Hid (∀ W,Below w.heap.size w W->∀ x y:Mo,Calls Tryz.prog F (#[.agg #[.bool x.on,O J x.fl.a,O J x.fl.b,O J x.fl.slot,O J x.fl.unt,O J x.now],.agg #[.bool y.on,O J y.fl.a,O J y.fl.b,O J y.fl.slot,O J y.fl.unt,O J y.now]] ++ caps) W fun e W'=>e=.returned (.bool (g x y))/\Below W.heap.size W W'):=fun W hW=>hf2 W (hw.trans (hW.mono hw.size))
 obtain⟨R,hR⟩:∃ R,R=Qa p g f i x y:=⟨_,rfl⟩
 rw[<- hR]
 obtain⟨ox,hox⟩:∃ o:Obj,o=.cells #[.bool x.on,O J x.fl.a,O J x.fl.b,O J x.fl.slot,O J x.fl.unt,O J x.now] 139:=⟨_,rfl⟩
 obtain⟨oy,hoy⟩:∃ o:Obj,o=.cells #[.bool y.on,O J y.fl.a,O J y.fl.b,O J y.fl.slot,O J y.fl.unt,O J y.now] 139:=⟨_,rfl⟩
 have Hb:Hid (Below w.heap.size w ((w.alloc ox).alloc oy)):=below_alloc2 _ _ _
 have H1:Hid (w.heap[B1]?=some (.cells #[O J f] 3 (0,0))):=h1
 obtain⟨c1,-,hl1⟩:=Af h1
 obtain⟨-,c2,-,-,-,hl2⟩:=Ib h2
 obtain⟨c3,-,hl3⟩:=Af h3
 clear hv hw hf1 hf2 h1 h2 h3
 by_cases hf:f=-1
 rotate_left
 ·have hf':(f == -1)=false:=by simpa using hf
  have hRe:R=f:=by rw[hR];unfold Qa;rw[if_neg (fun h=>hf h.1)]
  subst hRe
  have HE:Hid (LitW w B1 R (.returned (.tuple #[])) ((w.alloc ox).alloc oy)):=⟨rfl,(Hb.out.block _ hl1).trans H1.out,Fine.of_below _ Hb.out⟩
  clear hf hR
  go_enter Tryz.func92,Tryz.ntmps92
  go_wp2
  go_end0
  rw[<- hox,<- hoy]
  exact HE.out
 subst hf
 by_cases hi:p.fro<=i
 rotate_left
 ·have hi':¬ ((p.fro:Int)<=(i:Int)):=by omega
  have hRe:R=-1:=by rw[hR];unfold Qa;rw[if_neg (fun h=>hi h.2.1)]
  subst hRe
  have HE:Hid (LitW w B1 (-1) (.returned (.tuple #[])) ((w.alloc ox).alloc oy)):=⟨rfl,(Hb.out.block _ hl1).trans H1.out,Fine.of_below _ Hb.out⟩
  clear hi hR
  go_enter Tryz.func92,Tryz.ntmps92
  go_wp2
  go_end0
  rw[<- hox,<- hoy]
  exact HE.out
 have hi':(p.fro:Int)<=(i:Int):=by omega
 have HR:Hid (R=if g x y=true then (i:Int) else -1):=by
  show _=_
  rw[hR];unfold Qa
  by_cases hg:g x y=true
  ·rw[if_pos ⟨rfl,hi,hg⟩,if_pos hg]
  ·rw[if_neg (fun h=>hg h.2.2),if_neg hg]
 clear hi hR
 go_enter Tryz.func92,Tryz.ntmps92
 go_wp2_with fail
 rw[<- hox,<- hoy]
 generalize (w.alloc ox).alloc oy=V at *
 rw[HFn.out]
 refine(HP.out V Hb.out x y).mono ?_
 rintro e w1 ⟨rfl,hb1⟩
 have Hb1:Hid (Below w.heap.size w w1):=Hb.out.trans (hb1.mono Hb.out.size)
 have h1:w1.heap[B1]?=some (.cells #[O J (-1)] 3 (0,0)):=(Hb1.out.block _ hl1).trans H1.out
 clear hb1 Hb H1 c1 c2 c3
 cases hg:g x y
 ·have hRe:R=-1:=by rw[HR.out,hg];rfl
  subst hRe
  have HE:Hid (LitW w B1 (-1) (.returned (.tuple #[])) w1):=⟨rfl,h1,Fine.of_below _ Hb1.out⟩
  clear HR h1 Hb1 hg
  go_wp2
  go_end0
  exact HE.out
 ·have hRe:R=i:=by rw[HR.out,hg];rfl
  subst hRe
  have HE:Hid (LitW w B1 i (.returned (.tuple #[])) (w1.setCell ⟨B1,0,none⟩ (O J i))):=⟨rfl,by rw[block_setCell (i:=0) h1];rfl,(Fine.of_below (fun j=>j=B1) Hb1.out).set (.inl rfl) _ _⟩
  obtain⟨d1,d2,d3⟩:=Af h1
  clear HR h1 Hb1 hg
  go_wp2
  go_end0
  exact HE.out
theorem fn92:∀ args W,(callFunc 92 args).run Tryz.prog W=.ok (.enter 92 args) W:=fun _ _=>by kernel_rfl
theorem a2a{W:Wd}(I:WInv W){lo:Nat}{w:World}{aS aH aF aL:Option Addr}{cS cH cF cL:Nat}{aT:Option Addr}{cT:Nat}(h:WAns lo w (.agg #[Y aS W.m.slots.length cS,Y aH W.m.heads.length cH,Y aF W.m.free.length cF,Y aL W.m.locks.length cL,O J W.m.now,Y aT W.ts.length cT]) W)(aP:Option Addr)(cP n:Nat)(hn:n<=300)(p:Pst)(aK:Option Addr)(cK:Nat)(h1:p.fro<=p.to)(h2:p.to<n) :
  Calls Tryz.prog 89 #[.agg #[Y aS W.m.slots.length cS,Y aH W.m.heads.length cH,Y aF W.m.free.length cF,Y aL W.m.locks.length cL,O J W.m.now,Y aT W.ts.length cT],Y aP n cP,.agg #[O J p.task,O J p.c.kind,O J p.c.a,O J p.c.b,O J p.c.time,O J p.c.bk,O J p.c.slot,O J p.fro,O J p.to,O J p.e,O J p.slot,O J p.n,Y aK p.keys.length cK]] w fun e w'=>e=.returned (O J 0)/\Below w.heap.size w w':=by
 have HI:Hid (WInv W):=I
 obtain⟨ox,hox⟩:∃ o:Obj,o=.cells #[Y aS W.m.slots.length cS,Y aH W.m.heads.length cH,Y aF W.m.free.length cF,Y aL W.m.locks.length cL,O J W.m.now,Y aT W.ts.length cT] 28:=⟨_,rfl⟩
 obtain⟨op,hop⟩:∃ o:Obj,o=.cells #[O J p.task,O J p.c.kind,O J p.c.a,O J p.c.b,O J p.c.time,O J p.c.bk,O J p.c.slot,O J p.fro,O J p.to,O J p.e,O J p.slot,O J p.n,Y aK p.keys.length cK] 78:=⟨_,rfl⟩
 have b0:Below w.heap.size w ((w.alloc ox).alloc op):=below_alloc2 _ _ _
 have HX0:Hid (((w.alloc ox).alloc op).heap[w.heap.size]?=some ox):=by show _=_;rw[Below.heap_alloc _ _ _ (by simp),heap_alloc_new]
 have HP0:Hid (((w.alloc ox).alloc op).heap[w.heap.size+1]?=some op):=by
  have:=heap_alloc_new (w.alloc ox) op
  rwa [show (w.alloc ox).heap.size=w.heap.size+1 by simp] at this
 have HV0:Hid (WAns lo ((w.alloc ox).alloc op) (.agg #[Y aS W.m.slots.length cS,Y aH W.m.heads.length cH,Y aF W.m.free.length cF,Y aL W.m.locks.length cL,O J W.m.now,Y aT W.ts.length cT]) W):=h.below b0
 have Hb0:Hid (Below w.heap.size w ((w.alloc ox).alloc op)):=b0
 have l6:Hid (((w.alloc (.cells #[Y aS W.m.slots.length cS,Y aH W.m.heads.length cH,Y aF W.m.free.length cF,Y aL W.m.locks.length cL,O J W.m.now,Y aT W.ts.length cT] 28)).alloc (.cells #[O J p.task,O J p.c.kind,O J p.c.a,O J p.c.b,O J p.c.time,O J p.c.bk,O J p.c.slot,O J p.fro,O J p.to,O J p.e,O J p.slot,O J p.n,Y aK p.keys.length cK] 78)).rangeAt w.heap.size 0 [Y aS W.m.slots.length cS,Y aH W.m.heads.length cH,Y aF W.m.free.length cF,Y aL W.m.locks.length cL,O J W.m.now,Y aT W.ts.length cT]):=by subst hox hop;exact Ag HX0.out rfl
 have q0:¬ ((p.fro:Int)<0):=by omega
 have q1:¬ ((p.to:Int)<(p.fro:Int)):=by omega
 have q2:¬ ((n:Int)<=(p.to:Int)):=by omega
 have q3:¬ ((300:Int)<(n:Int)):=by omega
 clear I h b0 h1 h2 hn
 go_enter Tryz.func89,Tryz.ntmps89
 go_wp2_with (refine wl_6 rfl _ rfl rfl l6.out ?_)
 rw[<- hox,<- hop]
 rw[<- hox,<- hop] at l6
 clear l6
 generalize (w.alloc ox).alloc op=V0 at *
 subst hox hop
 refine(Si HI.out HV0.out).mono ?_
 rintro e w1 ⟨rfl,hb1⟩
 have hP1:=(hb1.block _ (lt_of_block HP0.out)).trans HP0.out
 obtain⟨-,c7,c8,-,-,hl⟩:=Ib hP1
 have Hb1:Hid (Below w.heap.size w w1):=Hb0.out.trans (hb1.mono Hb0.out.size)
 clear hb1 HX0 HP0 HV0 Hb0 hP1
 go_wp2
 go_ret
 exact⟨rfl,Hb1.out⟩
def wit(W0:Wd)(l:List Pk)(p:Pst):Nat->Int
 | 0=>-1
 | k+1=>Qa p (U8 p) (wit W0 l p k) k (moAt (runW W0 (l.take k)).m p.c.a p.c.b) (moAt (runW W0 (l.take (k+1))).m p.c.a p.c.b)
theorem a8a(W0:Wd)(l:List Pk)(p:Pst)(k:Nat):wit W0 l p (k+1)=if wit W0 l p k=-1/\p.fro<=k/\accM p (runW W0 (l.take k)).m (runW W0 (l.take (k+1))).m=true then (k:Int) else wit W0 l p k:=by
 show Qa _ _ _ _ _ _=_
 unfold Qa
 rw[a6w]
theorem a8b(W0:Wd)(l:List Pk)(p:Pst):∀ k,wit W0 l p k=-1\/(p.fro:Int)<=wit W0 l p k/\wit W0 l p k<k
 | 0=>.inl rfl
 | k+1=>by
  rw[a8a]
  by_cases h:wit W0 l p k=-1/\p.fro<=k/\accM p (runW W0 (l.take k)).m (runW W0 (l.take (k+1))).m=true
  ·rw[if_pos h];exact .inr ⟨by omega,by omega⟩
  ·rw[if_neg h]
   rcases a8b W0 l p k with h1|h1
   ·exact .inl h1
   ·exact .inr ⟨h1.1,by omega⟩
theorem a1t(W0:Wd)(l:List Pk)(p:Pst){j:Nat}(hj:p.fro<=j)(ha:accM p (runW W0 (l.take j)).m (runW W0 (l.take (j+1))).m=true):∀ k,j<k->wit W0 l p k ≠ -1
 | 0,h=>by omega
 | k+1,h=>by
  rw[a8a]
  by_cases hjk:j<k
  ·have h1:=a1t W0 l p hj ha k hjk
   rw[if_neg (fun h=>h1 h.1)]
   exact h1
  ·have e:k=j:=by omega
   subst e
   by_cases h1:wit W0 l p k=-1
   ·rw[if_pos ⟨h1,hj,ha⟩];omega
   ·rw[if_neg (fun h=>h1 h.1)];exact h1
end
end Go.Proofs.YthhgoenomehobaaGreat.mm
