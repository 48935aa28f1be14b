/- Parts. -/
import Derived.Test.YthhgoenomehobaaGreatS03
import Derived.Test.YthhgoenomehobaaGreatS04
import Derived.Test.YthhgoenomehobaaGreatS02
namespace Go.Proofs.YthhgoenomehobaaGreat.mm
set_option maxRecDepth 100000
set_option linter.unusedVariables false
open Go.Value renaming int → O, slice → Y
open Go.IntKind renaming i64 → J
section
open Go.ChangeShapes Go.WideShapes Go.ChangeAt Go.RowKit Go.Joins Go.Maps
theorem Aa{w:World}{B:Nat}{v0 v1 v2 v3 v4 v5 v6 v7 v8 v9 v10 v11 v12 v13:Value}{t:TypeId}(h:w.heap[B]?=some (.cells #[v0,v1,v2,v3,v4,v5,v6,v7,v8,v9,v10,v11,v12,v13] t (0,0))) :
  w.cell? ⟨B,0,none⟩=some v0/\w.cell? ⟨B,1,none⟩=some v1/\w.cell? ⟨B,2,none⟩=some v2/\w.cell? ⟨B,3,none⟩=some v3/\w.cell? ⟨B,4,none⟩=some v4/\w.cell? ⟨B,5,none⟩=some v5/\w.cell? ⟨B,6,none⟩=some v6/\w.cell? ⟨B,7,none⟩=some v7/\w.cell? ⟨B,8,none⟩=some v8/\w.cell? ⟨B,9,none⟩=some v9/\w.cell? ⟨B,10,none⟩=some v10/\w.cell? ⟨B,11,none⟩=some v11/\w.cell? ⟨B,12,none⟩=some v12/\w.cell? ⟨B,13,none⟩=some v13/\(∀ q,w.frozen? ⟨B,q,none⟩=false)/\B<w.heap.size :=
 ⟨by rw[cell_of_block h];rfl,by rw[cell_of_block h];rfl,by rw[cell_of_block h];rfl,by rw[cell_of_block h];rfl,by rw[cell_of_block h];rfl,by rw[cell_of_block h];rfl,by rw[cell_of_block h];rfl,by rw[cell_of_block h];rfl,by rw[cell_of_block h];rfl,by rw[cell_of_block h];rfl,by rw[cell_of_block h];rfl,by rw[cell_of_block h];rfl,by rw[cell_of_block h];rfl,by rw[cell_of_block h];rfl,fun q=>unfrozen_of_block h q,lt_of_block h⟩
theorem a7c(x lo hi:Int)(w:World):Calls Tryz.prog 145 #[.agg #[O J x,O J lo,O J hi]] w fun e w'=>e=.returned (.bool (inB x lo hi))/\Below w.heap.size w w':=by
 go_enter Tryz.func145,Tryz.ntmps145
 go_wp2_with (go_at_call 85;refine(Cm _ _ _ _).mono ?_;rintro e w1 ⟨rfl,rfl⟩)
 go_ret
 exact⟨rfl,Ad _ _⟩
theorem b0u{nS nH:Nat}{f:Fr}(h:Df nS nH f.c≠0):frE nS nH f=Df nS nH f.c:=by unfold frE;rw[if_pos h]
theorem U7{nS nH:Nat}{f:Fr}(h:Df nS nH f.c=0)(h1:inB f.pl 0 9=false\/inB f.n 0 1000000=false\/f.done=true):frE nS nH f=3:=by unfold frE;rw[if_neg (by simpa using h),if_pos h1]
theorem Wu{nS nH:Nat}{f:Fr}(h:Df nS nH f.c=0)(h1:inB f.pl 0 9=true)(h2:inB f.n 0 1000000=true)(h3:f.done=false)(h4:inB f.cur (-(nH:Int)) nS=false\/inB f.prev 0 nS=false\/inB f.slot (-1) ((nS:Int) - 1)=false):frE nS nH f=5:=by
 unfold frE;rw[if_neg (by simpa using h),if_neg (by rw[h1,h2,h3];simp),if_pos h4]
theorem b0v{nS nH:Nat}{f:Fr}(h:Df nS nH f.c=0)(h1:inB f.pl 0 9=true)(h2:inB f.n 0 1000000=true)(h3:f.done=false)(h4:inB f.cur (-(nH:Int)) nS=true)(h5:inB f.prev 0 nS=true)(h6:inB f.slot (-1) ((nS:Int) - 1)=true):frE nS nH f=if 100<f.keys.length then 2 else 0:=by
 unfold frE;rw[if_neg (by simpa using h),if_neg (by rw[h1,h2,h3];simp),if_neg (by rw[h4,h5,h6];simp)]
theorem a0e{nS nH:Nat}{c:Cl}{E:Int}(h:E=Df nS nH c)(aS aH aF aL:Option Addr)(nF nL cS cH cF cL:Nat)(now:Int)(w:World)(hn:nS<=9223372036854775807)(hh:nH<=9223372036854775807) :
  Calls Tryz.prog 143 #[.agg #[Y aS nS cS,Y aH nH cH,Y aF nF cF,Y aL nL cL,O J now],.agg #[O J c.kind,O J c.a,O J c.b,O J c.time,O J c.bk,O J c.slot]] w fun e w'=>e=.returned (O J E)/\Below w.heap.size w w':=by
 subst h;exact Y4 aS aH aF aL nS nH nF nL cS cH cF cL now _ _ _ _ _ _ w hn hh
theorem Hu{x lo hi:Int}{r:Bool}(h:inB x lo hi=r)(w:World):Calls Tryz.prog 145 #[.agg #[O J x,O J lo,O J hi]] w fun e w'=>e=.returned (.bool r)/\Below w.heap.size w w':=by
 subst h;exact a7c x lo hi w
set_option maxHeartbeats 6400000 in
theorem a0s(aS aH aF aL:Option Addr)(nS nH nF nL cS cH cF cL:Nat)(now:Int)(f:Fr)(aK:Option Addr)(cK:Nat)(w:World)(hn:nS<=9223372036854775000)(hh:nH<=9223372036854775000)(hk:f.keys.length<=9223372036854775807) :
  Calls Tryz.prog 112 #[.agg #[Y aS nS cS,Y aH nH cH,Y aF nF cF,Y aL nL cL,O J now],.agg #[O J f.c.kind,O J f.c.a,O J f.c.b,O J f.c.time,O J f.c.bk,O J f.c.slot,O J f.pl,O J f.cur,O J f.prev,O J f.slot,O J f.n,Y aK f.keys.length cK,.bool f.done,O J f.e]] w fun e w'=>e=.returned (O J (frE nS nH f))/\Below w.heap.size w w':=by
 obtain⟨om,hom⟩:∃ o:Obj,o=.cells #[Y aS nS cS,Y aH nH cH,Y aF nF cF,Y aL nL cL,O J now] 25:=⟨_,rfl⟩
 obtain⟨of,hof⟩:=frObj f aK cK
 have HE0:Hid (Env w ((w.alloc om).alloc of) _ []):=((⟨Below.refl _ _,(fun p hp=>by cases hp),(fun p hp=>by cases hp)⟩:Env w w [] []).alloc om).alloc of
 rw[show (w.alloc om).heap.size=w.heap.size+1 by simp] at HE0
 obtain⟨C0,hC0⟩:∃ x,x=Df nS nH f.c:=⟨_,rfl⟩
 have HC0:Hid (C0=Df nS nH f.c):=hC0
 obtain⟨E0,hE0⟩:∃ x,x=frE nS nH f:=⟨_,rfl⟩
 rw[<- hE0]
 have HV0:Hid (E0=frE nS nH f):=hE0
 clear hC0 hE0
 have i0:∀ (a b c d e g:Value) w,(Instr.index 183 (.agg #[a,b,c,d,e,g]) (O J 0)).run Tryz.prog w=.ok (.agg #[a,b,c]) w:=fun _ _ _ _ _ _ _=>by kernel_rfl
 have i1:∀ (a b c d e g:Value) w,(Instr.index 183 (.agg #[a,b,c,d,e,g]) (O J 1)).run Tryz.prog w=.ok (.agg #[d,e,g]) w:=fun _ _ _ _ _ _ _=>by kernel_rfl
 have j0:∀ (a b c d e g h i j:Value) w,(Instr.index 184 (.agg #[a,b,c,d,e,g,h,i,j]) (O J 0)).run Tryz.prog w=.ok (.agg #[a,b,c]) w:=fun _ _ _ _ _ _ _ _ _ _=>by kernel_rfl
 have j1:∀ (a b c d e g h i j:Value) w,(Instr.index 184 (.agg #[a,b,c,d,e,g,h,i,j]) (O J 1)).run Tryz.prog w=.ok (.agg #[d,e,g]) w:=fun _ _ _ _ _ _ _ _ _ _=>by kernel_rfl
 have j2:∀ (a b c d e g h i j:Value) w,(Instr.index 184 (.agg #[a,b,c,d,e,g,h,i,j]) (O J 2)).run Tryz.prog w=.ok (.agg #[h,i,j]) w:=fun _ _ _ _ _ _ _ _ _ _=>by kernel_rfl
 go_enter Tryz.func112,Tryz.ntmps112
 go_wp2_with fail
 rw[<- hom,<- hof]
 generalize (w.alloc om).alloc of=W0 at *
 subst hom hof
 refine(a0e HC0.out aS aH aF aL nF nL cS cH cF cL now W0 (by omega) (by omega)).mono ?_
 rintro e w1 ⟨rfl,hb1⟩
 have HE1:Hid _:=HE0.out.below hb1
 clear HE0 hb1
 by_cases hC:C0=0
 rotate_left
 ·have h':(C0 != 0)=true:=by simpa using hC
  have HV:Hid (E0=C0):=by rw[HV0.out,HC0.out];exact b0u (by rw[<- HC0.out];exact hC)
  go_wp2
  go_ret
  exact⟨by rw[HV.out];rfl,HE1.out.bl⟩
 subst hC
 have HC:Hid (Df nS nH f.c=0):=HC0.out.symm
 clear HC0
 obtain⟨f0,f1,f2,f3,f4,f5,f6,f7,f8,f9,f10,f11,f12,f13,-,fs⟩:=Aa (HE1.out.box _ (.head _))
 obtain⟨q0,q1,q2,q3,q4,-,-,-,-,-,qs⟩:=Aj (HE1.out.box _ (.tail _ (.head _)))
 go_wp2_with fail
 refine wp_loop_rounds 3 ?_
 rw[rounds_succ]
 go_wp2_with fail
 clear f0 f1 f2 f3 f4 f5 f6 f7 f8 f9 f10 f11 f12 f13 fs q0 q1 q2 q3 q4 qs
 have HX1:Hid _:=HE1.out.alloc (.cells #[O J f.pl,O J 0,O J 9] 182)
 cases hA:inB f.pl 0 9
 ·refine(Hu hA _).mono ?_
  rintro e w2 ⟨rfl,hb2⟩
  have HE2:Hid _:=HX1.out.below hb2
  have HV:Hid (E0=3):=HV0.out.trans (U7 HC.out (.inl hA))
  clear HX1 hb2
  go_wp2
  go_ret
  exact⟨by rw[HV.out];rfl,HE2.out.bl⟩
 refine(Hu hA _).mono ?_
 rintro e w2 ⟨rfl,hb2⟩
 have HE2:Hid _:=HX1.out.below hb2
 have G1:Hid (inB f.pl 0 9=true):=hA
 clear HX1 hb2 hA
 go_wp2_with fail
 rw[rounds_succ]
 go_wp2_with fail
 have HX2:Hid _:=HE2.out.alloc (.cells #[O J f.n,O J 0,O J 1000000] 182)
 cases hA:inB f.n 0 1000000
 ·refine(Hu hA _).mono ?_
  rintro e w3 ⟨rfl,hb3⟩
  have HE3:Hid _:=HX2.out.below hb3
  have HV:Hid (E0=3):=HV0.out.trans (U7 HC.out (.inr (.inl hA)))
  clear HX2 hb3
  go_wp2
  go_ret
  exact⟨by rw[HV.out];rfl,HE3.out.bl⟩
 refine(Hu hA _).mono ?_
 rintro e w3 ⟨rfl,hb3⟩
 have HE3:Hid _:=HX2.out.below hb3
 have G2:Hid (inB f.n 0 1000000=true):=hA
 clear HX2 hb3 hA
 go_wp2_with fail
 rw[rounds_succ]
 obtain⟨f0,f1,f2,f3,f4,f5,f6,f7,f8,f9,f10,f11,f12,f13,-,fs⟩:=Aa (HE3.out.box _ (.tail _ (.tail _ (.head _))))
 obtain⟨q0,q1,q2,q3,q4,-,-,-,-,-,qs⟩:=Aj (HE3.out.box _ (.tail _ (.tail _ (.tail _ (.head _)))))
 cases hD:f.done
 rotate_left
 ·have HV:Hid (E0=3):=HV0.out.trans (U7 HC.out (.inr (.inr hD)))
  rw[hD] at f12
  go_wp2
  go_ret
  exact⟨by rw[HV.out];rfl,HE3.out.bl⟩
 rw[hD] at f12
 have HD:Hid (f.done=false):=hD
 clear hD
 go_wp2_with fail
 refine wp_loop_rounds 4 ?_
 rw[rounds_succ]
 go_wp2_with fail
 clear f0 f1 f2 f3 f4 f5 f6 f7 f8 f9 f10 f11 f12 f13 fs q0 q1 q2 q3 q4 qs
 have HX3:Hid _:=HE3.out.alloc (.cells #[O J f.cur,O J (-(nH:Int)),O J nS] 182)
 cases hA:inB f.cur (-(nH:Int)) nS
 ·refine(Hu hA _).mono ?_
  rintro e w4 ⟨rfl,hb4⟩
  have HE4:Hid _:=HX3.out.below hb4
  have HV:Hid (E0=5):=HV0.out.trans (Wu HC.out G1.out G2.out HD.out (.inl hA))
  clear HX3 hb4
  go_wp2
  go_ret
  exact⟨by rw[HV.out];rfl,HE4.out.bl⟩
 refine(Hu hA _).mono ?_
 rintro e w4 ⟨rfl,hb4⟩
 have HE4:Hid _:=HX3.out.below hb4
 have G3:Hid (inB f.cur (-(nH:Int)) nS=true):=hA
 clear HX3 hb4 hA
 go_wp2_with fail
 rw[rounds_succ]
 go_wp2_with fail
 have HX4:Hid _:=HE4.out.alloc (.cells #[O J f.prev,O J 0,O J nS] 182)
 cases hA:inB f.prev 0 nS
 ·refine(Hu hA _).mono ?_
  rintro e w5 ⟨rfl,hb5⟩
  have HE5:Hid _:=HX4.out.below hb5
  have HV:Hid (E0=5):=HV0.out.trans (Wu HC.out G1.out G2.out HD.out (.inr (.inl hA)))
  clear HX4 hb5
  go_wp2
  go_ret
  exact⟨by rw[HV.out];rfl,HE5.out.bl⟩
 refine(Hu hA _).mono ?_
 rintro e w5 ⟨rfl,hb5⟩
 have HE5:Hid _:=HX4.out.below hb5
 have G4:Hid (inB f.prev 0 nS=true):=hA
 clear HX4 hb5 hA
 go_wp2_with fail
 rw[rounds_succ]
 go_wp2_with fail
 have HX5:Hid _:=HE5.out.alloc (.cells #[O J f.slot,O J (-1),O J ((nS:Int) - 1)] 182)
 cases hA:inB f.slot (-1) ((nS:Int) - 1)
 ·refine(Hu hA _).mono ?_
  rintro e w6 ⟨rfl,hb6⟩
  have HE6:Hid _:=HX5.out.below hb6
  have HV:Hid (E0=5):=HV0.out.trans (Wu HC.out G1.out G2.out HD.out (.inr (.inr hA)))
  clear HX5 hb6
  go_wp2
  go_ret
  exact⟨by rw[HV.out];rfl,HE6.out.bl⟩
 refine(Hu hA _).mono ?_
 rintro e w6 ⟨rfl,hb6⟩
 have HE6:Hid _:=HX5.out.below hb6
 have G5:Hid (inB f.slot (-1) ((nS:Int) - 1)=true):=hA
 clear HX5 hb6 hA
 go_wp2_with fail
 rw[rounds_succ]
 obtain⟨f0,f1,f2,f3,f4,f5,f6,f7,f8,f9,f10,f11,f12,f13,-,fs⟩:=Aa (HE6.out.box _ (.tail _ (.tail _ (.tail _ (.tail _ (.tail _ (.head _)))))))
 obtain⟨q0,q1,q2,q3,q4,-,-,-,-,-,qs⟩:=Aj (HE6.out.box _ (.tail _ (.tail _ (.tail _ (.tail _ (.tail _ (.tail _ (.head _))))))))
 have HV:Hid (E0=if 100<f.keys.length then 2 else 0):=HV0.out.trans (b0v HC.out G1.out G2.out HD.out G3.out G4.out G5.out)
 by_cases hK:100<f.keys.length
 ·rw[if_pos hK] at HV
  go_wp2
  go_ret
  exact⟨by rw[HV.out];rfl,HE6.out.bl⟩
 ·rw[if_neg hK] at HV
  have hK':f.keys.length<=100:=by omega
  go_wp2
  go_ret
  exact⟨by rw[HV.out];rfl,HE6.out.bl⟩
end
section
open Go.ChangeShapes Go.WideShapes Go.ChangeAt Go.RowKit Go.Joins
theorem b5y(a b:Int)(w:World)(h:Xe a b=3) :
  Calls Tryz.prog 59 #[O J a,O J b] w fun e w'=>e=.returned (.tuple #[.agg #[Y none 0 0,Y none 0 0,Y none 0 0,Y none 0 0,O J 0],O J 3])/\Below w.heap.size w w':=by
 have hh:inB a 0 12=false\/(inB a 0 12=true/\inB b 1 4=false):=by
  unfold Xe at h
  cases h1:inB a 0 12
  ·exact .inl rfl
  ·cases h2:inB b 1 4
   ·exact .inr ⟨rfl,rfl⟩
   ·simp[h1,h2] at h
 clear h
 rcases hh with h1|⟨h1,h2⟩
 all_goals
  go_enter Tryz.func59,Tryz.ntmps59
  go_wp2_with (go_at_call 85;refine(Cm _ _ _ _).mono ?_;rintro e w1 ⟨rfl,rfl⟩)
  exact bodyPost_ret (v:=.tuple #[.agg #[Y none 0 0,Y none 0 0,Y none 0 0,Y none 0 0,O J 0],O J 3]) (by simp[results,Tryz.results59,go_sem]) rfl ⟨rfl,Ad _ _⟩
def Jp(n k:Nat):List Int:=(List.range k).map fun (a:Nat)=>(n:Int) - 1 - (a:Int)
def Jr(k:Nat):List Int:=(List.range k).map fun (b:Nat)=>-1 - (b:Int)
def Qq(k:Nat):List Int:=List.replicate k (-1)
theorem a0u(n k:Nat):Jp n (k+1)=Jp n k ++ [(n:Int) - 1 - k]:=by simp[Jp,List.range_succ]
theorem a0x(k:Nat):Jr (k+1)=Jr k ++ [-1 - (k:Int)]:=by simp[Jr,List.range_succ]
theorem a1d(k:Nat):Qq (k+1)=Qq k ++ [-1]:=by simp[Qq,List.replicate_succ']
theorem O7(n k:Nat):(Jp n k).length=k:=by simp[Jp]
theorem O9(k:Nat):(Jr k).length=k:=by simp[Jr]
theorem Oc(k:Nat):(Qq k).length=k:=by simp[Qq]
theorem a7t(n:Nat):(madeCells #[O J 0,O J 0,O J 0,O J 0,.bool false,O J 0] (n*6)).toList=encS (List.replicate n sl0):=by
 apply List.ext_getElem?
 intro j
 by_cases hj:j<n*6
 ·have h6:j / 6<n:=by omega
  have hq:j % 6<6:=by omega
  have e6:j / 6*6+j % 6=j:=by omega
  have r:(encS (List.replicate n sl0))[j]?=(sl0.enc)[j % 6]?:=by
   have:=Rq (List.replicate n sl0) (j / 6) (j % 6) (by simpa using h6) hq
   rw[e6] at this
   rw[this]
   simp
  rw[r]
  have l:(madeCells #[O J 0,O J 0,O J 0,O J 0,.bool false,O J 0] (n*6)).toList[j]?=some ((#[O J 0,O J 0,O J 0,O J 0,.bool false,O J 0]:Array Value)[j % 6]!):=by
   simp[madeCells,hj]
  rw[l]
  generalize j % 6=q at hq
  match q,hq with
  | 0,_=>rfl
  | 1,_=>rfl
  | 2,_=>rfl
  | 3,_=>rfl
  | 4,_=>rfl
  | 5,_=>rfl
 ·rw[List.getElem?_eq_none (by simp[madeCells];omega),List.getElem?_eq_none (by rw[Jh];simp;omega)]
theorem Ans.off{lo g:Nat}{w w':World}{v:Value}{M:Mm}(A:Ans lo w v M)(hg:g<lo)(h:∀ k,k≠g->w'.heap[k]?=w.heap[k]?):Ans lo w' v M:=by
 obtain⟨aS,aH,aF,aL,cS,cH,cF,cL,e,A,hi⟩:=A
 exact⟨aS,aH,aF,aL,cS,cH,cF,cL,e,A.off hi hg h,hi⟩
set_option maxHeartbeats 3200000 in
theorem b9i(n m:Nat)(w:World)(hn:n<=12)(h1:1<=m)(h4:m<=4) :
  Calls Tryz.prog 59 #[O J n,O J m] w fun e w'=>∃ v,e=.returned (.tuple #[v,O J 0])/\Ans w.heap.size w' v (Gs n m)/\Below w.heap.size w w':=by
 obtain⟨i0,hi,hz0,hz1,hz2⟩:=info_parts iI
 obtain⟨j0,hj,yz0,yz1,yz2⟩:=info_parts iS
 have e1:inB (n:Int) 0 12=true:=(Ai _ _ _).2 ⟨by omega,by omega⟩
 have e2:inB (m:Int) 1 4=true:=(Ai _ _ _).2 ⟨by omega,by omega⟩
 go_enter Tryz.func59,Tryz.ntmps59
 go_wp2_with (first
  | (go_at_call 85;refine(Cm _ _ _ _).mono ?_;rintro e w1 ⟨rfl,rfl⟩)
  | (at_make;refine wpList_make_full _ rfl _ _ 22 rfl (w.heap.size+1) 64 j0 (.agg #[O J 0,O J 0,O J 0,O J 0,.bool false,O J 0]) 6 Tryz.underlying22 hj yz0 yz1 .i64 .i64 _ _ n rfl rfl rfl rfl (by rw[yz2];omega) (by unfold maxLen;omega) (by simp) ?_;intro w1 hown hgrow))
 rw[show (w.alloc (.cells #[Y none 0 0,Y none 0 0,Y none 0 0,Y none 0 0,O J 0] 25)).heap.size=w.heap.size+1 by simp] at *
 obtain⟨W0,hW0⟩:∃ W0,W0=w.alloc (.cells #[Y none 0 0,Y none 0 0,Y none 0 0,Y none 0 0,O J 0] 25):=⟨_,rfl⟩
 have HR:Hid (W0.heap[w.heap.size]?=some (.cells #[Y none 0 0,Y none 0 0,Y none 0 0,Y none 0 0,O J 0] 25)):=by rw[hW0];exact heap_alloc_new _ _
 have HW:Hid (Below w.heap.size w W0):=by rw[hW0];exact Ad _ _
 have HZ:Hid (W0.heap.size=w.heap.size+1):=by show _=_;rw[hW0];simp
 rw[<- hW0] at hgrow
 clear hW0
 have hS:w1.ownsRow (w.heap.size+1) 64 6 (Y (some ⟨w.heap.size+1,0,none⟩) n n) n (encS (List.replicate n sl0)):=by
  rw[<- a7t n];exact hown
 have z1:w.heap.size+1<w1.heap.size:=(hS.lt _ rfl).2
 have G0:Gr W0 (w.heap.size+1) w1.heap.size (w1.alloc (.cells #[Y (some ⟨w.heap.size+1,0,none⟩) n n,Y none 0 0,Y none 0 0,Y none 0 0,O J 0] 25)) (Y (some ⟨w.heap.size+1,0,none⟩) n n) (Y none 0 0) (Y none 0 0) (Y none 0 0) (List.replicate n sl0) [] [] []:=by
  refine⟨heap_alloc_new _ _,?_,World.ownsRow_nil _ _ _ _,World.ownsRow_nil _ _ _ _,World.ownsRow_nil _ _ _ _,(fun g h=>by cases h),(fun g h=>by cases h),(fun g h=>by cases h),by omega,?_⟩
  ·rw[List.length_replicate];exact hS.alloc _
  ·exact((Below.refl _ W0).grown hgrow (by rw[HZ.out];exact Nat.le_refl _) (fun k h=>by cases h)).alloc (by omega) _
 clear hown hgrow hS
 go_loopw [22] (fun i wr=>∃ k:Nat,k<=n/\i=O J k/\∃ fv,Gr W0 (w.heap.size+1) w1.heap.size wr (Y (some ⟨w.heap.size+1,0,none⟩) n n) (Y none 0 0) fv (Y none 0 0) (List.replicate n sl0) [] (Jp n k) [])
  (fun i _=>n - (intOf i).toNat)
 case atStart=>exact⟨0,Nat.zero_le _,rfl,_,G0⟩
 case round =>
  obtain⟨k,hk,rfl,fv,G⟩:=hrel
  clear G0
  obtain⟨ao,cap,rfl⟩:=D9 G.f
  rw[O7] at G
  obtain⟨q0,q1,q2,q3,q4,f0,f1,f2,f3,f4,qs⟩:=Aj G.box
  by_cases hlt:k<n
  ·have hne:∀ b:Nat,b<w1.heap.size->True:=fun _ _=>trivial
   go_wp2_with (at_builtin;refine wpList_append_own_at _ rfl (.tmp 26) (.tmp 31) 23 rfl (w.heap.size+1) 3 i0 (O J 0) 1 8 Tryz.underlying23 hi hz0 hz1 hz2 rfl (by first|decide|exact Ex.ne _ _ (by decide)) _ _ _ rfl (G.f.alloc _) ⟨wr.heap.size,0,none⟩ 1 1 [O J ((n:Int) - 1 - (k:Int))] rfl rfl (Zn _ _ _ _ rfl) (by intro u hu;simp at hu;subst hu;rfl) (by rw[O7];unfold maxLen;omega) (by rw[O7];omega) (by simp;omega) ?_;intro v2 w2 ho2 hg2 _ hloc2;obtain⟨g2,cap2,rfl⟩:=ownsRow_form ho2 (by omega);have HO2:Hid (w2.ownsRow (w.heap.size+1) 3 1 _ ((Jp n k).length+1) (encI (Jp n k) ++ [O J ((n:Int) - 1 - (k:Int))])):=ho2;have HG2:Hid ((wr.alloc (.cells #[O J ((n:Int) - 1 - (k:Int))] 3)).grownBy w2 (Value.slice ao k cap).ownBlock):=⟨hg2.1,hg2.2,hg2.3,hg2.4,hg2.5⟩;have HL2:Hid ((Value.slice (some ⟨g2,0,none⟩) ((Jp n k).length+1) cap2).ownBlock=(Value.slice ao k cap).ownBlock\/(Value.slice (some ⟨g2,0,none⟩) ((Jp n k).length+1) cap2).ownBlock=some (wr.alloc (.cells #[O J ((n:Int) - 1 - (k:Int))] 3)).heap.size):=hloc2;clear ho2 hg2 hloc2 q0 q1 q2 q3 q4 f0 f1 f2 f3 f4;obtain⟨q0,q1,q2,q3,q4,f0,f1,f2,f3,f4,qs2⟩:=Aj (F6 G.box HG2.out (own_ne G.f G.box (by first|decide|exact Ex.ne _ _ (by decide)))))
   go_roundw
   case rel=>exact⟨k+1,by omega,by go_num,_,by rw[a0u];exact G.b8r HO2.out HG2.out HL2.out⟩
   case measure=>simp[intOf];omega
  ·obtain rfl:k=n:=by omega
   go_wp2
   go_loopw [36] (fun i wr=>∃ j:Nat,j<=m/\i=O J j/\∃ hv lv,Gr W0 (w.heap.size+1) w1.heap.size wr (Y (some ⟨w.heap.size+1,0,none⟩) k k) hv (Y ao k cap) lv (List.replicate k sl0) (Jr j) (Jp k k) (Qq j))
    (fun i _=>m - (intOf i).toNat)
   case atStart=>exact⟨0,Nat.zero_le _,rfl,_,_,G⟩
   case round =>
    obtain⟨j,hj,rfl,hv,lv,G2⟩:=hrel
    clear G q0 q1 q2 q3 q4 f0 f1 f2 f3 f4 qs
    obtain⟨aH,cH,rfl⟩:=D9 G2.h
    obtain⟨aL,cL,rfl⟩:=D9 G2.l
    rw[O9,Oc] at G2
    obtain⟨q0,q1,q2,q3,q4,f0,f1,f2,f3,f4,qs⟩:=Aj G2.box
    by_cases hlt2:j<m
    ·have HOX:((wr.alloc (.cells #[O J (-1 - (j:Int))] 3)).drew).ownsRow (w.heap.size+1) 3 1 (Y aH j cH) (Jr j).length (encI (Jr j)):=(G2.h.alloc (.cells #[O J (-1 - (j:Int))] 3):(wr.alloc (.cells #[O J (-1 - (j:Int))] 3)).ownsRow (w.heap.size+1) 3 1 (Y aH j cH) (Jr j).length (encI (Jr j)))
     have HCX:∀ q u,[Value.int .i64 (-1 - (j:Int))][q]?=some u->((wr.alloc (.cells #[O J (-1 - (j:Int))] 3)).drew).cell? ((⟨wr.heap.size,0,none⟩:Addr).add q)=some u:=fun q u h=>cell_one_new wr (O J (-1 - (j:Int))) 3 q u h
     have G2':Gr W0 (w.heap.size+1) w1.heap.size wr.drew (Y (some ⟨w.heap.size+1,0,none⟩) k k) (Y aH j cH) (Y ao k cap) (Y aL j cL) (List.replicate k sl0) (Jr j) (Jp k k) (Qq j):=⟨G2.box,G2.s,G2.h,G2.f,G2.l,G2.hf,G2.hl,G2.fl,G2.at_,G2.below.drew⟩
     go_wp2_with fail
     go_region_law (first
      | (go_simp;go_at_call 108;refine(Jd _ _ (by omega) (by omega)).mono ?_;rintro e wq ⟨rfl,rfl⟩)
      | (refine I8 _ rfl (.tmp 40) (.tmp 43) 23 rfl (w.heap.size+1) 3 i0 (O J 0) 1 8 Tryz.underlying23 hi hz0 hz1 hz2 rfl (by first|decide|exact Ex.ne _ _ (by decide)) (Y aH j cH) _ _ rfl HOX ⟨wr.heap.size,0,none⟩ 1 1 [O J (-1 - (j:Int))] rfl rfl HCX (by intro u hu;simp at hu;subst hu;rfl) (by rw[O9];unfold maxLen;omega) (by rw[O9];omega) (by simp;omega) ?_;intro v2 w2 ho2 hg2 _ hloc2;obtain⟨g2,cap2,rfl⟩:=ownsRow_form ho2 (by omega);have HG2:Hid ((wr.alloc (.cells #[O J (-1 - (j:Int))] 3)).grownBy w2 (Value.slice aH j cH).ownBlock):=⟨hg2.1,hg2.2,hg2.3,hg2.4,hg2.5⟩;have G3:=G2.b8s (x:=-1 - (j:Int)) ho2 HG2.out hloc2;clear ho2 hg2 hloc2 q0 q1 q2 q3 q4 f0 f1 f2 f3 f4;obtain⟨q0,q1,q2,q3,q4,f0,f1,f2,f3,f4,qs2⟩:=Aj (F6 G2.box HG2.out (own_ne G2.h G2.box (by first|decide|exact Ex.ne _ _ (by decide))));have z2:w1.heap.size<w2.heap.size:=qs2))
     all_goals go_wp2_with (at_builtin;refine wpList_append_own_at _ rfl (.tmp 47) (.tmp 48) 23 rfl (w.heap.size+1) 3 i0 (O J 0) 1 8 Tryz.underlying23 hi hz0 hz1 hz2 rfl (by first|decide|exact Ex.ne _ _ (by decide)) _ _ _ rfl (G3.l.alloc _) ⟨w2.heap.size,0,none⟩ 1 1 [O J (-1)] rfl rfl (Zn _ _ _ _ (World.size_setCell ..).symm) (by intro u hu;simp at hu;subst hu;rfl) (by rw[Oc];unfold maxLen;omega) (by rw[Oc];omega) (by simp;omega) ?_;intro v3 w3 ho3 hg3 _ hloc3;obtain⟨g3,cap3,rfl⟩:=ownsRow_form ho3 (by omega);have HG3:Hid (((w2.setCell ⟨w1.heap.size,1,none⟩ (Y (some ⟨g2,0,none⟩) ((Jr j).length+1) cap2)).alloc (.cells #[O J (-1)] 3)).grownBy w3 (Value.slice aL j cL).ownBlock):=hg3;have G4:=G3.b8y (x:=-1) ho3 HG3.out hloc3;clear ho3 hg3 hloc3 q0 q1 q2 q3 q4 f0 f1 f2 f3 f4;obtain⟨q0,q1,q2,q3,q4,f0,f1,f2,f3,f4,qs3⟩:=Aj (F6 G3.box HG3.out (own_ne G3.l G3.box (by first|decide|exact Ex.ne _ _ (by decide)))))
     all_goals (go_roundw;(case rel=>exact⟨j+1,by omega,by go_num,_,_,by rw[a0x,a1d];exact G4⟩);(case measure=>simp[intOf];omega))
    ·obtain rfl:j=m:=by omega
     have HR2:Hid (wr.heap[w.heap.size]?=_):=(G2.below.block w.heap.size (by omega)).trans HR.out
     obtain⟨r0,r1,r2,r3,r4,g0,g1,g2,g3,g4,rs⟩:=Aj HR2.out
     have A:=G2.ans (by simp;omega) (by rw[O9];omega) (by rw[O7];omega) (by rw[Oc];omega)
     have HA:Hid (Ans (w.heap.size+1) wr _ _):=A
     have HB:Hid (Below w.heap.size w wr):=HW.out.trans (G2.below.mono (by omega))
     clear A G2
     go_wp2
     refine bodyPost_ret (v:=.tuple #[.agg #[Y (some ⟨w.heap.size+1,0,none⟩) k k,Y aH j cH,Y ao k cap,Y aL j cL,O J 0],O J 0]) (by simp[results,Tryz.results59,go_sem,r0,r1,r2,r3,r4]) rfl ⟨_,rfl,?_,?_⟩
     ·exact(HA.out.off (by omega) (fun k hk=>Xk (w:=wr) hk)).mono (by omega)
     ·exact HB.out.trans (Qw wr _ _ _ _ _ _ _ (by omega))
end
section
open Go.ChangeShapes Go.WideShapes Go.ChangeAt Go.RowKit Go.Joins
theorem P6(a b c d:Int)(w:World):(Op.equalIn 10000 30 (.agg #[O J a,O J b]) (.agg #[O J c,O J d])).run Tryz.prog w=.ok (a==c && b==d) w:=by
 have u3:=Tryz.underlying3
 have a3:=Tryz.isAgg3
 have z3:=Tryz.sizeOf3
 have hS:Tryz.prog.underlying 30=some (.struct (Tryz.prog.fieldsOf 30)):=by kernel_rfl
 have hp:Tryz.prog.stoodInHeld 30=false:=by kernel_rfl
 rw[show (10000:Nat)=9999+1 from rfl,run_equalIn_agg w 9999 30 _ _ hS hp]
 simp only[Program.fieldsOf,Tryz.underlying30]
 go_simp
 by_cases h1:a=c <;> by_cases h2:b=d <;> simp[h1,h2]
def fM1:Mm:=Gs 2 1
def fM2:Mm:=Pj fM1 1 0 5
def fM3:Mm:=Pj fM2 2 0 5
def fM4:Mm:=Pj fM3 3 0 5
def fM5:Mm:=letM fM3 1
def fM6:Mm:=Pj fM5 4 0 6
theorem g2:Pj fM1 1 0 5=fM2:=rfl
theorem g3:Pj fM2 2 0 5=fM3:=rfl
theorem g4:Pj fM3 3 0 5=fM4:=rfl
theorem g5:letM fM3 1=fM5:=rfl
theorem g6:Pj fM5 4 0 6=fM6:=rfl
theorem f2:Zu fM1 1 0 5=0/\Uj fM1 1 0 5=0:=by decide
theorem f3:Zu fM2 2 0 5=1/\Uj fM2 2 0 5=0:=by decide
theorem f4:Zu fM3 3 0 5=0/\Uj fM3 3 0 5=7:=by decide
theorem f5:letE fM3 1=0:=by decide
theorem f6:Zu fM5 4 0 6=1/\Uj fM5 4 0 6=0:=by decide
end
end Go.Proofs.YthhgoenomehobaaGreat.mm
