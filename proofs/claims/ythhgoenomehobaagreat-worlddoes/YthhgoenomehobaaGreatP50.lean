/- Parts. -/
import Derived.Test.YthhgoenomehobaaGreatP47
import Derived.Test.YthhgoenomehobaaGreatP46
namespace Go.Proofs.YthhgoenomehobaaGreat.mm
set_option maxRecDepth 100000
set_option linter.unusedVariables false
open Go.Value renaming int → O, slice → Y
open Go.IntKind renaming i64 → J
open Go.Proofs.Tryz renaming prog → Pg
open Go renaming World → Wq
open Go.ChangeShapes Go.WideShapes Go.ChangeAt Go.RowKit Go.Joins Go.Deep Go.Maps
set_option maxHeartbeats 3200000
section
section
variable {w W3:Wq} {n0 lo2:Nat} {aS aH aF aL:Option Addr} {cS cH cF cL g cT n:Nat} {M:Mm} {l:List (Tk × TkV)} {x:Pk} {B lo:Nat}
theorem b1q{i:Nat}(h:PkH w W3 n0 lo2 aS aH aF aL cS cH cF cL g cT n M l x)(ht:x.tick=false)(hx:x.task=i)(hi:i<l.length)(hs:x.step=true)(hb:l[i].1.busy=true)(hf:Fit M l[i].1.f)(hk:l[i].1.f.c.kind=1)(hl5:l[i].1.held.length<=100)(hE:Hid (doE ⟨M,l.map (·.1)⟩ x=0))(hW:Hid (doW ⟨M,l.map (·.1)⟩ x=⟨(stepT M i l[i].1).1,(l.map (·.1)).set i (stepT M i l[i].1).2⟩))(v0 v1 v11 v12:Value) :
  Code.wp Pg (H9 (H9 (H9 (Tryz.f22.body.getD .skip)))) (bodyPost Pg Tryz.f22 (Iw w ⟨M,l.map (·.1)⟩ x)) (Np w.heap.size v0 v1 v11 v12) W3:=by
 have hpi:=List.getElem_mem hi
 obtain⟨G,hG⟩:∃ G,G=lkF M l[i].1.f:=⟨_,rfl⟩
 obtain⟨N,hN⟩:∃ N,N=lkM M l[i].1.f:=⟨_,rfl⟩
 have HC:Hid (Calls Pg 69 #[.pointer (some ⟨w.heap.size,0,none⟩),.agg #[O J ((l[i].1.f).c).kind,O J ((l[i].1.f).c).a,O J ((l[i].1.f).c).b,O J ((l[i].1.f).c).time,O J ((l[i].1.f).c).bk,O J ((l[i].1.f).c).slot,O J (l[i].1.f).pl,O J (l[i].1.f).cur,O J (l[i].1.f).prev,O J (l[i].1.f).slot,O J (l[i].1.f).n,Y (l[i].2.aK) (l[i].1.f).keys.length (l[i].2.cK),.bool (l[i].1.f).done,O J (l[i].1.f).e]] W3 fun e w'=>∃ a c,e=.returned (.agg #[O J G.c.kind,O J G.c.a,O J G.c.b,O J G.c.time,O J G.c.bk,O J G.c.slot,O J G.pl,O J G.cur,O J G.prev,O J G.slot,O J G.n,Y a G.keys.length c,.bool G.done,O J G.e])/\a6q W3 n0 w.heap.size aS aH aF aL g n cT l[i].2.aK G N a c w'):=by
  refine(a1u M _ w.heap.size n0 aS aH aF aL cS cH cF cL _ _ W3 h.wm.m h.ok hf (h.wm.t.keys _ hpi) (fun ad e h'=>h.wm.ap _ h' (.inr (.inr ⟨_,hpi,ad,e,rfl⟩)))).mono ?_
  rintro e w' ⟨⟨a,c,h1,h2,h3,-⟩,h4,h5⟩
  rw[<- hG,<- hN] at *
  exact⟨a,c,h1,Y9 (Below.refl _ _) h2 h3 h4 h5⟩
 have hW2:Hid (doW ⟨M,l.map (·.1)⟩ x=⟨N,(l.map (·.1)).set i ⟨!G.done,G,if G.done && G.e==0 then l[i].1.held ++ [G.slot] else l[i].1.held⟩⟩):=by
  show _=_
  rw[hW.out]
  unfold stepT
  rw[if_pos hk,hG,hN]
  rfl
 obtain⟨x0,x1,x2,x3,x4,x5,x6,x7,x8,xs⟩:=P6 h.bx
 obtain⟨q0,q1,q2,q3,q4,q5,qs⟩:=Bc h.wm.m.box
 have d0:=(h.wm.t.busy hi).1
 have d1:W3.cell? ⟨g,i*16+1,none⟩=some (O J l[i].1.f.c.kind):=h.wm.t.cell (q:=1) hi (by decide)
 have lF:Hid (W3.rangeAt g (i*16+1) (l[i].1.f.enc l[i].2.aK l[i].2.cK)):=h.wm.t.Q7 hi
 have HP:Hid (PkH w W3 n0 lo2 aS aH aF aL cS cH cF cL g cT n M l x):=h
 rw[hb] at d0
 rw[hk] at d1
 rw[ht] at x2
 rw[hs] at x1
 rw[hx] at x0
 have hn:(i:Int)<(n:Int):=by have:=h.wm.len;omega
 have hn5:n<=5:=by rw[<- h.wm.len];exact h.wm.t.few
 clear hG hN hW h ht hs hx hb hf hk
 unfold Np
 conv=>arg 2;whnf
 go_wp2_with (have h9:=lF.out;refine We rfl (.tmp 144) rfl rfl h9 ?_;clear h9 lF)
 refine HC.out.mono ?_
 rintro e V ⟨a,c,rfl,hp⟩
 obtain⟨th,T4,H4,F4⟩:=a1l HP.out.wm hi hp
 have K4:=HP.out.wm.kept F4
 have hil:i<(l.set i (⟨l[i].1.busy,G,l[i].1.held⟩,⟨a,c,l[i].2.aH,l[i].2.cH⟩)).length:=by rw[List.length_set];exact hi
 have hel:(l.set i (⟨l[i].1.busy,G,l[i].1.held⟩,⟨a,c,l[i].2.aH,l[i].2.cH⟩))[i]'hil=(⟨l[i].1.busy,G,l[i].1.held⟩,⟨a,c,l[i].2.aH,l[i].2.cH⟩):=List.getElem_set_self ..
 have c13:(V.setCells g (i*16+1) (G.enc a c)).cell? ⟨g,i*16+13,none⟩=some (.bool G.done):=by rw[T4.cell (q:=13) hil (by decide),hel];rfl
 have c14:(V.setCells g (i*16+1) (G.enc a c)).cell? ⟨g,i*16+14,none⟩=some (O J G.e):=by rw[T4.cell (q:=14) hil (by decide),hel];rfl
 have c10:(V.setCells g (i*16+1) (G.enc a c)).cell? ⟨g,i*16+10,none⟩=some (O J G.slot):=by rw[T4.cell (q:=10) hil (by decide),hel];rfl
 have c15:(V.setCells g (i*16+1) (G.enc a c)).cell? ⟨g,i*16+15,none⟩=some (Y l[i].2.aH l[i].1.held.length l[i].2.cH):=by rw[T4.cell (q:=15) hil (by decide),hel];rfl
 have f15:(V.setCells g (i*16+1) (G.enc a c)).frozen? ⟨g,i*16+15,none⟩=false:=T4.row.frozenAt _
 have own:=T4.held _ (List.getElem_mem hil)
 have hne:∀ ad,l[i].2.aH=some ad->ad.block≠g:=fun ad e=>HP.out.wm.t.hg hpi e
 have glo:=T4.glo
 rw[hel] at own
 have Th:Hid (V.there g (i*16+1) 14):=th
 clear th hel hil hp HC x0 x1 x2 x3 x4 x5 x6 x7 x8 q0 q1 q2 q3 q4 q5 d0 d1
 rename_i K2 hK2 K1 hK1 K0 hK0
 have HK2:Hid _:=hK2
 clear hK2
 by_cases hde:(G.done && G.e==0)=true
 ·have h1:G.done=true:=by simp at hde;exact hde.1
  have h2:(G.e==0)=true:=by simp at hde;simp;exact hde.2
  rw[if_pos hde] at hW2
  have HD:Hid (G.done=true):=h1
  have C10:Hid _:=c10
  have C15:Hid _:=c15
  have F15:Hid _:=f15
  have Own:Hid _:=own
  have HT4:Hid _:=T4
  have HH4:Hid _:=H4
  have HF4:Hid _:=F4
  rw[h1] at c13
  clear h1 hde T4 H4 F4 c10 c15 f15 own K4
  go_wp2_with (have h9:=Th.out;refine Bd (f:=G) rfl (.tmp 148) (.tmp 146) rfl rfl rfl h9 ?_;clear h9 Th;generalize V.setCells g (i*16+1) (G.enc a c)=W4 at *)
  refine b1y rfl rfl C15.out F15.out C10.out Own.out hne hl5 (by omega) fun y V2 ob w2 g2 cap2 hb2 hs2 ho2 hg2 hl2=>?_
  obtain⟨T4,H4,K4⟩:=b3y HP.out.wm hi (HT4.out.below hb2) (Has.below HH4.out hb2) (HF4.out.below hb2) ho2 hg2 hl2 hl5
  simp only[mkA,dA,List.foldl_cons,List.foldl_nil,Act.put,List.setIfInBounds_toArray,List.set_cons_succ,List.set_cons_zero]
  generalize w2.setCell ⟨g,i*16+15,none⟩ (Y (some ⟨g2,0,none⟩) (l[i].1.held.length+1) cap2)=W5 at *
  clear HT4 HH4 HF4 ho2 hg2 hl2 C10 C15 F15 Own c13 c14
  refine HK2.out _ _ ?_
  clear HK2
  obtain⟨c13,cb,cf,cg,hwp⟩:=Rk HP.out.wm hi T4 H4 K4
  obtain⟨c0,c1,c2,c3,c4,c5,r6,t6,o6,b6,hQ⟩:=N9 hwp HP.out.bz HP.out.big HP.out.bel hE.out hW2.out.symm
  have R6:Hid _:=r6
  have T6:Hid _:=t6
  have HQ:Hid _:=hQ
  obtain⟨z0,z1,z2,z3,z4,z5,zs⟩:=Bc b6
  clear r6 t6 hQ hwp K4 T4 H4 HP hE hW2
  go_wp2_with (first|(refine Ha rfl (.tmp 2) rfl rfl R6.out ?_;clear R6)|(refine Gz rfl (.tmp 4) (.tmp 262) rfl rfl rfl T6.out o6 ?_;clear T6))
  generalize (W5.setCell ⟨g,i*16,none⟩ (.bool (!G.done))).setCells (w.heap.size+1+1) 0 [c0,c1,c2,c3,c4,c5]=W6 at *
  refine bodyPost_ret (v:=.tuple #[.agg #[c0,c1,c2,c3,c4,c5],O J 0]) (by simp[results,Tryz.results22,go_sem,z0,z1,z2,z3,z4,z5]) rfl HQ.out
 ·rw[if_neg hde] at hW2
  have HT4:Hid _:=T4
  have HH4:Hid _:=H4
  have HK4:Hid _:=K4
  clear T4 H4 F4 c10 c15 f15 own K4
  have hde':G.done=false\/(G.done=true/\(G.e==0)=false):=by
   cases hd:G.done with
   | false=>exact .inl rfl
   | true=>exact .inr ⟨rfl,by simpa [hd] using hde⟩
  clear hde
  rcases hde' with hd|⟨hd,h2⟩
  all_goals
   rw[hd] at c13
   clear hd
   go_wp2_with (have h9:=Th.out;refine Bd (f:=G) rfl (.tmp 148) (.tmp 146) rfl rfl rfl h9 ?_;clear h9 Th;generalize V.setCells g (i*16+1) (G.enc a c)=W5 at *)
   obtain⟨T4,H4,K4⟩:=(⟨HT4.out,HH4.out,HK4.out⟩:_/\_/\_)
   refine HK2.out _ _ ?_
   clear HK2 HT4 HH4 HK4 c13 c14
   obtain⟨c13,cb,cf,cg,hwp⟩:=Rk HP.out.wm hi T4 H4 K4
   obtain⟨c0,c1,c2,c3,c4,c5,r6,t6,o6,b6,hQ⟩:=N9 hwp HP.out.bz HP.out.big HP.out.bel hE.out hW2.out.symm
   have R6:Hid _:=r6
   have T6:Hid _:=t6
   have HQ:Hid _:=hQ
   obtain⟨z0,z1,z2,z3,z4,z5,zs⟩:=Bc b6
   clear r6 t6 hQ hwp K4 T4 H4 HP hE hW2
   go_wp2_with (first|(refine Ha rfl (.tmp 2) rfl rfl R6.out ?_;clear R6)|(refine Gz rfl (.tmp 4) (.tmp 262) rfl rfl rfl T6.out o6 ?_;clear T6))
   generalize (W5.setCell ⟨g,i*16,none⟩ (.bool (!G.done))).setCells (w.heap.size+1+1) 0 [c0,c1,c2,c3,c4,c5]=W6 at *
   refine bodyPost_ret (v:=.tuple #[.agg #[c0,c1,c2,c3,c4,c5],O J 0]) (by simp[results,Tryz.results22,go_sem,z0,z1,z2,z3,z4,z5]) rfl HQ.out
end
end
end Go.Proofs.YthhgoenomehobaaGreat.mm
