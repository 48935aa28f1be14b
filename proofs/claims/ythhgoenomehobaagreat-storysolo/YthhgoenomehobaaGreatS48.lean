/- Parts. -/
import Derived.Test.YthhgoenomehobaaGreatS47
import Derived.Test.YthhgoenomehobaaGreatS42
import Derived.Deep.QuietTactic
import Derived.BigQuiet
namespace Go.Proofs.YthhgoenomehobaaGreat.mm
set_option maxRecDepth 100000
set_option linter.unusedVariables false
section
open Go.ChangeShapes Go.WideShapes Go.ChangeAt Go.RowKit Go.Joins Go.Deep Go.Maps
def BlW(w V:World):Prop:=Below w.heap.size w V
structure Y3(w:World)(ao:Option Addr)(cap:Nat)(l:List Cl):Prop where
 le:l.length<=cap
 max:l.length*48<=140737488355328
 nil:ao=none->cap=0
 at_:l.length=0\/∃ b o,ao=some ⟨b,o,none⟩/\∀ i (h:i<l.length),w.rangeAt b (o+i*6) [.int .i64 ((l[i])).kind,.int .i64 ((l[i])).a,.int .i64 ((l[i])).b,.int .i64 ((l[i])).time,.int .i64 ((l[i])).bk,.int .i64 ((l[i])).slot]
theorem Y3.below{w w':World}{ao:Option Addr}{cap:Nat}{l:List Cl}(r:Y3 w ao cap l)(hb:Below w.heap.size w w'):Y3 w' ao cap l:=by
 refine⟨r.le,r.max,r.nil,?_⟩
 rcases r.at_ with h|⟨b,o,h,hc⟩
 ·exact .inl h
 ·refine .inr ⟨b,o,h,fun i hi=>?_⟩
  have h0:=hc i hi 0 _ rfl
  exact Fq (hc i hi) hb (cell_lt h0)
theorem Y3.take{w:World}{ao:Option Addr}{cap:Nat}{l:List Cl}(r:Y3 w ao cap l){m:Nat}(hm:m<=l.length):Y3 w ao cap (l.take m):=by
 have hl:(l.take m).length=m:=by rw[List.length_take];omega
 refine⟨by rw[hl];exact Nat.le_trans hm r.le,by rw[hl];exact Nat.le_trans (Nat.mul_le_mul_right 48 hm) r.max,r.nil,?_⟩
 rcases r.at_ with h|⟨b,o,h,hc⟩
 ·left;omega
 ·refine .inr ⟨b,o,h,fun i hi=>?_⟩
  have:=hc i (by omega)
  rwa [List.getElem_take]
theorem b1p(a b:Nat):(Js a b 1).ts=[idle]/\(Js a b 1).m.heads.length=b/\Sol [] (Js a b 1).m:=by
 refine⟨rfl,?_,?_⟩
 ·unfold Js Gs
  simp
 ·unfold Sol Bf
  rw[show Ba (Js a b 1).m=[] from Zm a b]
  exact List.Perm.refl _
theorem a7v{many buckets tasks:Int}(h:Nu many buckets tasks=0):buckets=(buckets.toNat:Int):=by
 have:=Yw h
 omega
def SoI(w wr:World)(base X5 X9 X11 X13 GM nb k:Nat):Prop :=
 ∃ W t cs v l n f a b,Sv w wr base X5 X9 X11 X13 GM nb W cs v l n f a b/\Bi W/\W.ts=[t]/\t.busy=false/\W.m.heads.length=nb/\Sol l W.m/\(∀ y:Int,f y=(t.held.count y:Int))/\n<=k
theorem SoI.below{w wr wr':World}{base X5 X9 X11 X13 GM nb k:Nat}(h:SoI w wr base X5 X9 X11 X13 GM nb k)(hb:Below wr.heap.size wr wr'):SoI w wr' base X5 X9 X11 X13 GM nb k:=by
 obtain⟨W,t,cs,v,l,n,f,a,b,S,r⟩:=h
 exact⟨W,t,cs,v,l,n,f,a,b,S.below hb,r⟩
theorem SoI.up{w wr:World}{base X5 X9 X11 X13 GM nb k k':Nat}(h:SoI w wr base X5 X9 X11 X13 GM nb k)(hk:k<=k'):SoI w wr base X5 X9 X11 X13 GM nb k':=by
 obtain⟨W,t,cs,v,l,n,f,a,b,S,r1,r2,r3,r4,r5,r6,r7⟩:=h
 exact⟨W,t,cs,v,l,n,f,a,b,S,r1,r2,r3,r4,r5,r6,Nat.le_trans r7 hk⟩
theorem SoI.bl{w wr:World}{base X5 X9 X11 X13 GM nb k:Nat}(h:SoI w wr base X5 X9 X11 X13 GM nb k):Below w.heap.size w wr:=by
 obtain⟨W,t,cs,v,l,n,f,a,b,S,-⟩:=h
 exact S.bl
theorem SoI.lo{w wr:World}{base X5 X9 X11 X13 GM nb k:Nat}(h:SoI w wr base X5 X9 X11 X13 GM nb k):base<=wr.heap.size:=by
 obtain⟨W,t,cs,v,l,n,f,a,b,S,-⟩:=h
 exact S.lo
set_option maxHeartbeats 8000000 in
theorem a5h(many buckets:Int)(cl:List Cl)(aC:Option Addr)(cC:Nat)(tk:List Int)(aK:Option Addr)(cK:Nat)(w:World)(rC:Y3 w aC cC cl)(rT:Ea w aK cK tk)(m:Nat)(hm:m<=cl.length)(hm':(cl.length:Int)<=40/\m=cl.length\/(40:Int)<(cl.length:Int)/\m=40) :
  Calls Tryz.prog 11 #[.int .i64 many,.int .i64 buckets,.slice aC cl.length cC,.slice aK tk.length cK] w fun e w'=>e=.returned (.bool true)/\Below w.heap.size w w':=by
 have m1:=rC.max
 have m2:=rC.le
 have HRc:Hid (Y3 w aC cC (cl.take m)):=rC.take hm
 have HRt:Hid (Ea w aK cK tk):=rT
 have HN:Hid (aC=none->cC=0):=rC.nil
 have hm3:m<=40:=by omega
 have hmc:m<=cC:=by omega
 have mt:=rT.max
 have HPl:Hid (∀ W:World,Calls Tryz.prog 18 #[] W fun e w'=>e=.returned (.bool true)/\Below W.heap.size W w'):=a3n
 obtain⟨o5,ho5⟩:∃ o:Obj,o=.cells #[.int .i64 buckets] 3:=⟨_,rfl⟩
 have HNw:=a1i many buckets 1 (w.alloc o5)
 have Hb0:Hid (Below w.heap.size w (w.alloc o5)):=Ad _ _
 have H50:Hid ((w.alloc o5).heap[w.heap.size]?=some o5):=heap_alloc_new _ _
 clear rC rT
 go_enter Tryz.func11,Tryz.ntmps11
 go_wp2_with fail
 rw[<- ho5]
 have hz0:w.heap.size<(w.alloc o5).heap.size:=lt_of_block H50.out
 generalize w.alloc o5=V0 at *
 generalize hX5:w.heap.size=X5 at *
 have HX5:Hid (w.heap.size=X5):=hX5
 clear hX5
 refine HNw.mono ?_
 rintro e w1 ⟨v,rfl,hv,hb1⟩
 obtain⟨E,hE⟩:∃ E,E=Nu many buckets 1:=⟨_,rfl⟩
 rw[<- hE] at hv ⊢
 clear HNw
 by_cases h0:E=0
 rotate_left
 ·have h':(E != 0)=true:=by simpa using h0
  obtain⟨aS,aH,aF,aL,cS,cH,cF,cL,aT,cT,lt,rfl,-⟩:=hv
  have Hb2:Hid (∀ o:Obj,BlW w (w1.alloc o)):=fun o=>by
   show Below _ _ _
   have h1:Below w.heap.size w V0:=by rw[HX5.out];exact Hb0.out
   have h2:=h1.trans (hb1.mono h1.size)
   exact h2.alloc h2.size o
  clear hE hm' hb1
  go_wp2_with fail
  refine(HPl.out _).mono ?_
  rintro e w3 ⟨rfl,hb3⟩
  have Hb3:Hid (BlW w w3):=by have h:=Hb2.out;exact(show Below w.heap.size w _ from h _).trans (hb3.mono (show Below w.heap.size w _ from h _).size)
  clear hb3 Hb2
  go_wp2_with fail
  refine(HPl.out _).mono ?_
  rintro e w4 ⟨rfl,hb4⟩
  have Hb4:Hid (BlW w w4):=by have h:=Hb3.out;exact(show Below w.heap.size w _ from h).trans (hb4.mono (show Below w.heap.size w _ from h).size)
  clear hb4 Hb3
  go_wp2
  go_ret
  exact⟨rfl,Hb4.out⟩
 rw[if_pos h0] at hv
 have hE1:=hE.symm.trans h0
 obtain⟨h12,h14,h15⟩:=Yw hE1
 obtain⟨nb,hnb⟩:∃ nb,nb=buckets.toNat:=⟨_,rfl⟩
 have hbn:buckets=(nb:Int):=by rw[hnb];exact a7v hE1
 have hI0:Bi (Js many.toNat nb 1):=by rw[hnb];exact a5b h12 h14 h15
 obtain⟨hts0,hnh0,hsol0⟩:=b1p many.toNat nb
 rw[show Js many.toNat buckets.toNat (Int.toNat 1)=Js many.toNat nb 1 by rw[hnb];rfl] at hv
 have n1:1<=nb:=by omega
 have n4:nb<=4:=by omega
 clear hE hE1 h12 h14 h15 hnb
 subst h0 hbn
 generalize Js many.toNat nb 1=W0 at *
 have HI0:Hid (Bi W0):=hI0
 have HTs0:Hid (W0.ts=[idle]):=hts0
 have HNh0:Hid (W0.m.heads.length=nb):=hnh0
 have HSo0:Hid (Sol [] W0.m):=hsol0
 clear hI0 hts0 hnh0 hsol0
 obtain⟨aS,aH,aF,aL,cS,cH,cF,cL,aT,cT,lt,rfl,-⟩:=id hv
 obtain⟨o9,ho9⟩:∃ o:Obj,o=.cells #[.slice aS W0.m.slots.length cS,.slice aH W0.m.heads.length cH,.slice aF W0.m.free.length cF,.slice aL W0.m.locks.length cL,.int .i64 W0.m.now,.slice aT W0.ts.length cT] 28:=⟨_,rfl⟩
 have b2:Below w1.heap.size w1 (w1.alloc o9):=Ad _ _
 have H92:Hid ((w1.alloc o9).heap[w1.heap.size]?=some o9):=heap_alloc_new _ _
 have HW2:Hid (WIn V0.heap.size w1.heap.size (w1.alloc o9) (.agg #[.slice aS W0.m.slots.length cS,.slice aH W0.m.heads.length cH,.slice aF W0.m.free.length cF,.slice aL W0.m.locks.length cL,.int .i64 W0.m.now,.slice aT W0.ts.length cT]) W0):=hv.wIn.same fun j _ h=>b2.block j h
 have Hb2:Hid (Below V0.heap.size V0 (w1.alloc o9)):=hb1.alloc hb1.size _
 have hz1:V0.heap.size<=w1.heap.size:=hb1.size
 clear hv hb1 b2
 go_wp2_with fail
 rw[<- ho9]
 generalize w1.alloc o9=W2 at *
 subst ho9
 rename_i K2 hK2 K1' hK1' K0' hK0'
 have HK2:Hid _:=hK2
 clear hK2
 refine(HPl.out W2).mono ?_
 rintro e w3 ⟨rfl,hb3⟩
 have H93:Hid (w3.heap[w1.heap.size]?=some (.cells #[.slice aS W0.m.slots.length cS,.slice aH W0.m.heads.length cH,.slice aF W0.m.free.length cF,.slice aL W0.m.locks.length cL,.int .i64 W0.m.now,.slice aT W0.ts.length cT] 28 (0,0))):=(hb3.block _ (lt_of_block H92.out)).trans H92.out
 have HW3:Hid (WIn V0.heap.size w1.heap.size w3 (.agg #[.slice aS W0.m.slots.length cS,.slice aH W0.m.heads.length cH,.slice aF W0.m.free.length cF,.slice aL W0.m.locks.length cL,.int .i64 W0.m.now,.slice aT W0.ts.length cT]) W0):=HW2.out.same fun j _ h=>hb3.block j (by have:=lt_of_block H92.out;omega)
 have Hb3:Hid (Below V0.heap.size V0 w3):=Hb2.out.trans (hb3.mono Hb2.out.size)
 have hz3:w1.heap.size<w3.heap.size:=lt_of_block H93.out
 clear H92 HW2 Hb2 hb3 HPl
 go_wp2_with fail
 refine HK2.out _ _ ?_
 clear HK2
 generalize w1.heap.size=X9 at *
 obtain⟨o11,ho11⟩:∃ o:Obj,o=.cells #[.slice none 0 0] 83:=⟨_,rfl⟩
 obtain⟨o13,ho13⟩:∃ o:Obj,o=.cells #[.func (.func 43) #[] #[.pointer (some ⟨w3.heap.size,0,none⟩)]] 89:=⟨_,rfl⟩
 have hmk:∀ w:World,(Instr.makeMap 84 none).run Tryz.prog w=.ok (.map (some w.heap.size)) (w.alloc (.map #[] 0)):=fun w=>by simp[Instr.makeMap]
 have hmf:∀ (fn:Fn) (first cap:Array Value) (w:World),(Instr.makeFunc fn first cap).run Tryz.prog w=.ok (.func fn first cap) w:=fun _ _ _ _=>rfl
 have HSv:Hid (SoI w (((w3.alloc o11).alloc (.map #[] 0)).alloc o13) (w3.heap.size+3) X5 X9 w3.heap.size (w3.heap.size+2) (w3.heap.size+1) nb 0):=by
  have hb1:Below w3.heap.size w3 (w3.alloc o11):=Ad _ _
  have hb2:Below w3.heap.size w3 ((w3.alloc o11).alloc (.map #[] 0)):=below_alloc2 _ _ _
  have hb3:Below w3.heap.size w3 (((w3.alloc o11).alloc (.map #[] 0)).alloc o13):=hb2.alloc hb2.size _
  have hs1:(w3.alloc o11).heap.size=w3.heap.size+1:=by simp
  have hs2:((w3.alloc o11).alloc (.map #[] 0)).heap.size=w3.heap.size+2:=by simp
  have hs3:(((w3.alloc o11).alloc (.map #[] 0)).alloc o13).heap.size=w3.heap.size+3:=by simp
  have k11:(((w3.alloc o11).alloc (.map #[] 0)).alloc o13).heap[w3.heap.size]?=some o11:=by
   rw[Below.heap_alloc _ _ _ (by omega),Below.heap_alloc _ _ _ (by omega),heap_alloc_new]
  have kM:Jf (((w3.alloc o11).alloc (.map #[] 0)).alloc o13) (w3.heap.size+1) 0 (fun _=>0):=by
   have h:=Jf.made (w3.alloc o11)
   rw[hs1] at h
   exact h.kept (Below.heap_alloc _ _ _ (by omega))
  have k13:(((w3.alloc o11).alloc (.map #[] 0)).alloc o13).heap[w3.heap.size+2]?=some o13:=by
   have h:=heap_alloc_new ((w3.alloc o11).alloc (.map #[] 0)) o13
   rwa [hs2] at h
  have hx:w.heap.size=X5:=HX5.out
  have hw1:Below w.heap.size w V0:=by rw[hx];exact Hb0.out
  have h5:=(Hb3.out.block _ (lt_of_block H50.out)).trans H50.out
  refine⟨W0,idle,#[.slice aS W0.m.slots.length cS,.slice aH W0.m.heads.length cH,.slice aF W0.m.free.length cF,.slice aL W0.m.locks.length cL,.int .i64 W0.m.now,.slice aT W0.ts.length cT],.slice none 0 0,[],0,fun _=>0,V0.heap.size,X9,⟨?_,(hb3.block _ (lt_of_block h5)).trans (h5.trans (by rw[ho5])),(hb3.block _ (lt_of_block H93.out)).trans H93.out,HW3.out.same fun j _ h=>hb3.block j (by omega),by omega,⟨by omega,by omega,by omega⟩,k11.trans (by rw[ho11]),⟨World.ownsRow_nil _ _ _ _⟩,(fun g h=>by cases h),k13.trans (by rw[ho13]),kM,by omega,⟨by omega,by omega,by omega,by omega,by omega⟩,⟨by omega,by omega,by omega,by omega,by omega⟩,⟨by omega,by omega,by omega,by omega,by omega,by omega,by omega,by omega,by omega⟩⟩,HI0.out,HTs0.out,rfl,HNh0.out,HSo0.out,(fun y=>by simp[idle]),Nat.le_refl _⟩
  have h1:=hw1.trans (Hb3.out.mono hw1.size)
  exact h1.trans (hb3.mono h1.size)
 clear H93 HW3 HI0 HTs0 HNh0 HSo0 H50 Hb3 Hb0
 refine wp_seq_k fun K4 hK4=>?_
 have HK4:Hid _:=hK4
 clear hK4
 go_wp2_with fail
 refine HK4.out _ _ ?_
 clear HK4
 clear K4
 refine wp_seq_k fun K5 hK5=>?_
 have HK5:Hid _:=hK5
 clear hK5
 go_wp2_with fail
 refine HK5.out _ _ ?_
 clear HK5
 clear K5
 refine wp_seq_k fun K6 hK6=>?_
 have HK6:Hid _:=hK6
 clear hK6
 go_wp2_with fail
 refine HK6.out _ _ ?_
 clear HK6
 clear K6
 rw[<- ho11,<- ho13]
 clear ho11 ho13 hmk
 generalize ((w3.alloc o11).alloc (.map #[] 0)).alloc o13=V4 at *
 generalize w3.heap.size+3=base at *
 generalize w3.heap.size+2=X13 at *
 generalize w3.heap.size+1=GM at *
 generalize w3.heap.size=X11 at *
 refine wp_seq_k fun KE hKE=>?_
 have HKE:Hid _:=hKE
 clear hKE
 refine wp_seq_k fun K7 hK7=>?_
 have tail7:∀ (u26 u27 u28 u29 u30 u31 u32 u33 u34 u35 u36 u37 u38 u39 u40 u41 u42 u43 u44:Value),K7 ⟨#[.int .i64 many,.int .i64 (nb:Int),.slice aC cl.length cC,.slice aK tk.length cK,undef,.pointer (some ⟨X5,0,none⟩),undef,undef,.bool false,.pointer (some ⟨X9,0,none⟩),.int .i64 0,.pointer (some ⟨X11,0,none⟩),.map (some GM),.pointer (some ⟨X13,0,none⟩),undef,undef,undef,undef,undef,undef,undef,undef,undef,undef,undef,undef,u26,u27,u28,u29,u30,u31,u32,u33,u34,u35,u36,u37,u38,u39,u40,u41,u42,u43,u44,.slice aC m cC,.int .i64 (m:Int),.int .i64 0,undef,undef,undef,undef,undef,undef,undef,undef,undef,undef,undef,undef,undef,undef,undef,undef,undef,undef,undef,undef,undef,undef,undef,undef,undef,undef,undef,undef,undef,undef,undef,undef,undef,undef,undef,undef,undef,undef,undef,undef,undef,undef,undef,undef,undef,undef,undef,undef,undef,undef,undef,undef,undef,undef,undef,undef,undef,undef,undef,undef,undef,undef,undef,undef,undef,undef,undef,undef,undef,undef,undef,undef,undef,undef,undef,undef,undef,undef,undef,undef,undef,undef,undef,undef,undef,undef,undef,undef,undef,undef,undef,undef,undef,undef,undef,undef,undef,undef,undef,undef,undef,undef,undef,undef,undef,undef,undef,undef,undef,undef,undef,undef,undef,undef,undef,undef,undef,undef,undef,undef,undef,undef,undef,undef,undef,undef,undef,undef,undef,undef,undef,undef,undef,undef,undef,undef,undef,undef,undef,undef,undef,undef,undef,undef,undef,undef,undef,undef,undef,undef,undef,undef,undef,undef,undef,undef,undef,undef,undef,undef,undef,undef,undef,undef,undef,undef,undef,undef,undef,undef,undef,undef,undef,undef,undef,undef,undef],[]⟩ V4:=by
  intro u26 u27 u28 u29 u30 u31 u32 u33 u34 u35 u36 u37 u38 u39 u40 u41 u42 u43 u44
  refine hK7 _ _ ?_
  clear hK7 hm'
  go_wp2_with fail
  go_loopw [47] (fun i wr=>∃ k:Nat,k<=m/\i=.int .i64 k/\Hid (SoI w wr base X5 X9 X11 X13 GM nb k)) (fun i _=>m - (intOf i).toNat)
  case atStart=>exact⟨0,Nat.zero_le _,rfl,HSv⟩
  case round =>
   clear HSv
   obtain⟨k,hk,rfl,HS⟩:=hrel
   by_cases hlt:k<m
   rotate_left
   ·have hlt':¬ ((k:Int)<(m:Int)):=by omega
    have HBe:Hid (BlW w wr):=HS.out.bl
    clear HS
    go_wp2_with fail
    refine HKE.out _ _ ?_
    go_wp2
    go_ret
    exact⟨rfl,HBe.out⟩
   have hlt':(k:Int)<(m:Int):=by omega
   refine wp_seq_k fun K8 hK8=>?_
   have HK8:Hid _:=hK8
   clear hK8
   go_wp2_with fail
   refine HK8.out _ _ ?_
   clear HK8
   refine wp_seq_k fun K9 hK9=>?_
   have HK9:Hid _:=hK9
   clear hK9
   go_wp2_with fail
   refine HK9.out _ _ ?_
   clear HK9
   refine wp_seq_k fun KR hKR=>?_
   have HKR:Hid _:=hKR
   clear hKR
   refine wp_block ?_
   refine wp_seq_k fun KA hKA=>?_
   have HKA:Hid _:=hKA
   clear hKA
   have hml:(cl.take m).length=m:=by rw[List.length_take];omega
   rcases HRc.out.at_ with h0|⟨bC,oC,rfl,hc⟩
   ·omega
   have lc:=hc k (by omega)
   clear hc
   obtain⟨c,hce⟩:∃ c,c=(cl.take m)[k]'(by omega):=⟨_,rfl⟩
   rw[<- hce] at lc
   have lC:Hid (wr.rangeAt bC (oC+k*6) [.int .i64 c.kind,.int .i64 c.a,.int .i64 c.b,.int .i64 c.time,.int .i64 c.bk,.int .i64 c.slot]):=Fq lc HS.out.bl (cell_lt (lc 0 _ rfl))
   clear lc hce hml
   obtain⟨oc,hoc⟩:∃ o:Obj,o=.cells #[.int .i64 c.kind,.int .i64 c.a,.int .i64 c.b,.int .i64 c.time,.int .i64 c.bk,.int .i64 c.slot] 32:=⟨_,rfl⟩
   have hb1:Below wr.heap.size wr (wr.alloc oc):=Ad _ _
   have HS1:Hid (SoI w (wr.alloc oc) base X5 X9 X11 X13 GM nb k):=HS.out.below hb1
   have HC1:Hid ((wr.alloc oc).heap[wr.heap.size]?=some oc):=heap_alloc_new _ _
   have hbase:base<=wr.heap.size:=HS.out.lo
   clear HS hb1
   subst hoc
   go_wp2_with (have h9:=lC.out;refine b3k rfl _ rfl rfl h9 ?_;clear h9 lC)
   refine HKA.out _ _ ?_
   clear HKA
   generalize wr.alloc (.cells #[.int .i64 c.kind,.int .i64 c.a,.int .i64 c.b,.int .i64 c.time,.int .i64 c.bk,.int .i64 c.slot] 32)=V1 at *
   generalize wr.heap.size=CB at *
   refine wp_seq_k fun KB hKB=>?_
   have tail1:∀ (u16 u17 u48 u49 u50 u51 u52 u53 u54 u55 u56 u57 u58 u59 u60 u61 u62 u63 u64 u65 u66 u67 u68 u69 u70 u71 u72 u73 u74:Value) (V:World),Hid (SoI w V base X5 X9 X11 X13 GM nb k)->Hid (V.heap[CB]?=some (.cells #[.int .i64 c.kind,.int .i64 c.a,.int .i64 c.b,.int .i64 c.time,.int .i64 c.bk,.int .i64 c.slot] 32 (0,0)))->KB ⟨#[.int .i64 many,.int .i64 (nb:Int),.slice (some ⟨bC,oC,none⟩) cl.length cC,.slice aK tk.length cK,undef,.pointer (some ⟨X5,0,none⟩),undef,undef,u8,.pointer (some ⟨X9,0,none⟩),.int .i64 0,.pointer (some ⟨X11,0,none⟩),.map (some GM),.pointer (some ⟨X13,0,none⟩),.int .i64 (k:Int),.pointer (some ⟨CB,0,none⟩),u16,u17,u18,u19,u20,u21,u22,u23,u24,u25,u26,u27,u28,u29,u30,u31,u32,u33,u34,u35,u36,u37,u38,u39,u40,u41,u42,u43,u44,.slice (some ⟨bC,oC,none⟩) m cC,.int .i64 (m:Int),.int .i64 (k:Int),u48,u49,u50,u51,u52,u53,u54,u55,u56,u57,u58,u59,u60,u61,u62,u63,u64,u65,u66,u67,u68,u69,u70,u71,u72,u73,u74,u75,u76,u77,u78,u79,u80,u81,u82,u83,u84,u85,u86,u87,u88,u89,u90,u91,u92,u93,u94,u95,u96,u97,u98,u99,u100,u101,u102,u103,u104,u105,u106,u107,u108,u109,u110,u111,u112,u113,u114,u115,u116,u117,u118,u119,u120,u121,u122,u123,u124,u125,u126,u127,u128,u129,u130,u131,u132,u133,u134,u135,u136,u137,u138,u139,u140,u141,u142,u143,u144,u145,u146,u147,u148,u149,u150,u151,u152,u153,u154,u155,u156,u157,u158,u159,u160,u161,u162,u163,u164,u165,u166,u167,u168,u169,u170,u171,u172,u173,u174,u175,u176,u177,u178,u179,u180,u181,u182,u183,u184,u185,u186,u187,u188,u189,u190,u191,u192,u193,u194,u195,u196,u197,u198,u199,u200,u201,u202,u203,u204,u205,u206,u207,u208,u209,u210,u211,u212,u213,u214,u215,u216,u217,u218,u219,u220,u221,u222,u223,u224],[]⟩ V:=by
    intro u16 u17 u48 u49 u50 u51 u52 u53 u54 u55 u56 u57 u58 u59 u60 u61 u62 u63 u64 u65 u66 u67 u68 u69 u70 u71 u72 u73 u74 V HS HC
    refine hKB _ _ ?_
    clear hKB HS1 HC1
    obtain⟨W,t,cs,v,l,n,f,a,b,S,I,hts,hidle,hnh,hsol,hcnt,hn⟩:=HS.out
    obtain⟨aS,aH,aF,aL,cS,cH,cF,cL,aT,cT,lt,e,-⟩:=S.hw V (fun _ _ _=>rfl)
    have ecs:=Value.agg.inj e
    subst ecs
    have l6:Hid (V.rangeAt X9 0 [.slice aS W.m.slots.length cS,.slice aH W.m.heads.length cH,.slice aF W.m.free.length cF,.slice aL W.m.locks.length cL,.int .i64 W.m.now,.slice aT W.ts.length cT]):=Bz S.h9 rfl
    have lc:Hid (V.rangeAt CB 0 [.int .i64 c.kind,.int .i64 c.a,.int .i64 c.b,.int .i64 c.time,.int .i64 c.bk,.int .i64 c.slot]):=Bz HC.out rfl
    have HW1:Hid (Gh a V (.agg #[.slice aS W.m.slots.length cS,.slice aH W.m.heads.length cH,.slice aF W.m.free.length cF,.slice aL W.m.locks.length cL,.int .i64 W.m.now,.slice aT W.ts.length cT]) W):=S.hw V (fun _ _ _=>rfl)
    have HSv:Hid _:=S
    have HI:Hid (Bi W):=I
    have HTs:Hid (W.ts=[t]):=hts
    have HNh:Hid (W.m.heads.length=nb):=hnh
    have HSo:Hid (Sol l W.m):=hsol
    have HCn:Hid (∀ y:Int,f y=(t.held.count y:Int)):=hcnt
    have Hn:Hid (n<=k):=hn
    have HBz:Hid (t.busy=false):=hidle
    clear S I hts hidle hnh hsol hcnt hn e
    go_wp2_with (first|(have h9:=l6.out;refine Ky rfl _ rfl rfl h9 ?_;clear h9 l6)|(have h9:=lc.out;refine b3k rfl _ rfl rfl h9 ?_;clear h9 lc))
    refine(Zk HI.out (x:=⟨0,false,false,c⟩) HW1.out).mono ?_
    rintro e w2 ⟨v2,rfl,hv2,hb2⟩
    obtain⟨E,hE⟩:∃ E,E=doE W ⟨0,false,false,c⟩:=⟨_,rfl⟩
    rw[<- hE] at hv2 ⊢
    by_cases hE0:E=0
    rotate_left
    ·rw[if_neg hE0] at hv2
     obtain⟨aSq,aHq,aFq,aLq,cSq,cHq,cFq,cLq,aTq,cTq,_,rfl,-⟩:=hv2
     have h':(E != 0)=true:=by simpa using hE0
     have HS2:Hid (∀ o:Obj,SoI w (w2.alloc o) base X5 X9 X11 X13 GM nb (k+1)):=fun o=>(HS.out.below (hb2.alloc hb2.size o)).up (Nat.le_succ k)
     clear hE hE0 hb2 HSv HW1 HI HTs HNh HSo HCn Hn HBz HS HC
     go_wp2_with fail
     refine HKR.out _ _ ?_
     go_wp2
     go_roundw
     case rel=>exact⟨k+1,by omega,by go_num,HS2.out _⟩
     case measure=>simp[intOf];omega
    rw[if_pos hE0] at hv2
    obtain⟨X,g,h',l',O,KP⟩:=b2o HI.out HTs.out (hE.symm.trans hE0) HSo.out
    obtain⟨Wn,hWn⟩:∃ Wn,Wn=doW W ⟨0,false,false,c⟩:=⟨_,rfl⟩
    rw[<- hWn] at hv2
    have HIn:Hid (Bi Wn):=by show Bi Wn;rw[hWn];exact Nw HI.out (hE.symm.trans hE0)
    have hOe:rounds 79 Wn=⟨X,[⟨false,g,h'⟩]⟩:=by rw[hWn];exact O.eq
    have HO:Hid (rounds 79 Wn=⟨X,[⟨false,g,h'⟩]⟩):=hOe
    have HOi:Hid (Bi ⟨X,[⟨false,g,h'⟩]⟩):=O.inv
    have HOs:Hid (Sol l' X):=O.sol
    have HOn:Hid (X.now=W.m.now):=O.now
    have HOh:Hid (X.heads.length=nb):=O.nh.trans HNh.out
    have HKP:Hid (b7k W t c l l' g h'):=KP
    have HTm:Hid (c.kind=2->0<=c.time/\c.time<=1000000):=a9u (Gy HTs.out (hE.symm.trans hE0)).2.1
    obtain⟨aS3,aH3,aF3,aL3,cS3,cH3,cF3,cL3,aT3,cT3,lt3,rfl,-⟩:=id hv2
    obtain⟨on,hon⟩:∃ o:Obj,o=.cells #[.slice aS3 Wn.m.slots.length cS3,.slice aH3 Wn.m.heads.length cH3,.slice aF3 Wn.m.free.length cF3,.slice aL3 Wn.m.locks.length cL3,.int .i64 Wn.m.now,.slice aT3 Wn.ts.length cT3] 28:=⟨_,rfl⟩
    obtain⟨V3,hV3⟩:∃ V3,V3=w2.alloc on:=⟨_,rfl⟩
    have hb3:Below V.heap.size V V3:=by rw[hV3];exact hb2.alloc hb2.size on
    have hN3:V3.heap[w2.heap.size]?=some on:=by rw[hV3];exact heap_alloc_new _ _
    have S3:=HSv.out.below hb3
    have HSv3:Hid _:=S3
    have hz2:=hb2.size
    have hz3:w2.heap.size<V3.heap.size:=lt_of_block hN3
    have HEn:Hid (Calls Tryz.prog 36 #[.agg #[.slice aS3 Wn.m.slots.length cS3,.slice aH3 Wn.m.heads.length cH3,.slice aF3 Wn.m.free.length cF3,.slice aL3 Wn.m.locks.length cL3,.int .i64 Wn.m.now,.slice aT3 Wn.ts.length cT3],.int .i64 80] V3 (EndP V.heap.size w2.heap.size V3 79 Wn)):=by
     have h:=b5f HIn.out 80 79 (by omega) (by omega) (by rw[hOe];intro u hu;rw[List.mem_singleton.1 hu]) V.heap.size w2.heap.size V3 (.agg #[.slice aS3 Wn.m.slots.length cS3,.slice aH3 Wn.m.heads.length cH3,.slice aF3 Wn.m.free.length cF3,.slice aL3 Wn.m.locks.length cL3,.int .i64 Wn.m.now,.slice aT3 Wn.ts.length cT3]) (hv2.wIn.same fun j _ hj=>(by rw[hV3];exact(Ad _ _).block j hj)) (by omega)
     exact h
    have x2:V3.cell? ⟨X9,2,none⟩=some (.slice aF W.m.free.length cF):=by rw[cell_of_block S3.h9];rfl
    have HC3:Hid _:=(hb3.block _ (lt_of_block HC.out)).trans HC.out
    have l7:Hid (V3.rangeAt w2.heap.size 0 [.slice aS3 Wn.m.slots.length cS3,.slice aH3 Wn.m.heads.length cH3,.slice aF3 Wn.m.free.length cF3,.slice aL3 Wn.m.locks.length cL3,.int .i64 Wn.m.now,.slice aT3 Wn.ts.length cT3]):=by subst hon;exact Bz hN3 rfl
    subst hon
    have HV3:Hid (V3=w2.alloc (.cells #[.slice aS3 Wn.m.slots.length cS3,.slice aH3 Wn.m.heads.length cH3,.slice aF3 Wn.m.free.length cF3,.slice aL3 Wn.m.locks.length cL3,.int .i64 Wn.m.now,.slice aT3 Wn.ts.length cT3] 28)):=hV3
    have hzV:V.heap.size<=w2.heap.size:=hz2
    have Hbd:Hid (X9<V.heap.size/\X11<V.heap.size/\GM<V.heap.size/\(∀ gg,v.ownBlock=some gg->gg<V.heap.size)):=⟨lt_of_block HSv.out.h9,lt_of_block HSv.out.h11,HSv.out.hm.lt,fun gg hg=>(HSv.out.hE.own.lt gg hg).2⟩
    have Hfr:Hid ((W.m.free.length:Int)<=1000000):=by
     have:=HI.out.okc.ok.ns
     have:=Wv HI.out.okc.ok
     show _<=_
     omega
    subst hE0
    clear hE hv2 hb2 hb3 hN3 S3 hV3 hWn HSv HW1 HS HC O KP hOe hz2
    go_wp2_with (first|(rw[<- HV3.out];clear HV3)|(have h9:=l7.out;refine Ky rfl _ rfl rfl h9 ?_;clear h9 l7))
    refine HEn.out.mono ?_
    rintro e w4 ⟨v4,q,a4,b4,hq,hid,rfl,hw4,hb4',hor,hb4⟩
    rw[show rounds q Wn=⟨X,[⟨false,g,h'⟩]⟩ from (a1o hq hid).symm.trans HO.out] at hw4
    obtain⟨W2,hW2⟩:∃ W2:Wd,W2=⟨X,[⟨false,g,h'⟩]⟩:=⟨_,rfl⟩
    rw[<- hW2] at hw4
    obtain⟨aS4,aH4,aF4,aL4,cS4,cH4,cF4,cL4,aT4,cT4,lt4,rfl,-⟩:=hw4 w4 (fun _ _ _=>rfl)
    have S4:=HSv3.out.below hb4
    have hz4:=hb4.size
    have ha4:V.heap.size<=a4:=by omega
    have t6:Hid (w4.there X9 0 6):=Dn S4.h9 (by simp)
    obtain⟨V5,hV5⟩:∃ V5,V5=w4.setCells X9 0 [.slice aS4 W2.m.slots.length cS4,.slice aH4 W2.m.heads.length cH4,.slice aF4 W2.m.free.length cF4,.slice aL4 W2.m.locks.length cL4,.int .i64 W2.m.now,.slice aT4 W2.ts.length cT4]:=⟨_,rfl⟩
    have S5:Sv w V5 base X5 X9 X11 X13 GM nb W2 #[.slice aS4 W2.m.slots.length cS4,.slice aH4 W2.m.heads.length cH4,.slice aF4 W2.m.free.length cF4,.slice aL4 W2.m.locks.length cL4,.int .i64 W2.m.now,.slice aT4 W2.ts.length cT4] v l n f a4 b4:=by
     obtain⟨h1,h2,h3,h4⟩:=Hbd.out
     rw[hV5]
     exact S4.setW (cs':=#[.slice aS4 W2.m.slots.length cS4,.slice aH4 W2.m.heads.length cH4,.slice aF4 W2.m.free.length cF4,.slice aL4 W2.m.locks.length cL4,.int .i64 W2.m.now,.slice aT4 W2.ts.length cT4]) rfl hw4 hb4' ⟨by omega,by omega,by omega⟩ (fun gg hg hx=>by have:=h4 gg hg;omega)
    have HC5:Hid (V5.heap[CB]?=some (.cells #[.int .i64 c.kind,.int .i64 c.a,.int .i64 c.b,.int .i64 c.time,.int .i64 c.bk,.int .i64 c.slot] 32 (0,0))):=by
     show _=_
     rw[hV5]
     exact(Ae (by have:=S4.top;omega) _ _ _).trans ((hb4.block _ (lt_of_block HC3.out)).trans HC3.out)
    have hlen2:W2.ts.length=1:=by rw[hW2];rfl
    obtain⟨lt,-,hcT4,pT,qT,rfl,hrt⟩:=Y0 (S5.hw V5 (fun _ _ _=>rfl)) (t:=0) (by omega)
    rw[show W2.ts.getD 0 idle=⟨false,g,h'⟩ by rw[hW2];rfl] at hrt
    have lF:Hid (V5.rangeAt pT (qT+1) (g.enc lt.aK lt.cK)):=fun j u hu=>by
     have hj:j<14:=(List.getElem?_eq_some_iff.1 hu).1
     have h:=hrt.out (j+1) u (by
      show (Value.bool false :: (g.enc lt.aK lt.cK ++ [_]))[j+1]?=_
      rw[List.getElem?_cons_succ,List.getElem?_append_left hj]
      exact hu)
     rw[show qT+1+j=qT+0*16+(j+1) by omega]
     exact h
    have x5:V5.cell? ⟨X9,5,none⟩=some (.slice (some ⟨pT,qT,none⟩) W2.ts.length cT4):=by rw[cell_of_block S5.h9];rfl
    have hne2:((W2.ts.length:Int) != 1)=false:=by rw[hlen2];rfl
    have hpos2:(0:Int)<(W2.ts.length:Int):=by rw[hlen2];decide
    obtain⟨of,hof⟩:∃ o:Obj,o=.cells #[.int .i64 g.c.kind,.int .i64 g.c.a,.int .i64 g.c.b,.int .i64 g.c.time,.int .i64 g.c.bk,.int .i64 g.c.slot,.int .i64 g.pl,.int .i64 g.cur,.int .i64 g.prev,.int .i64 g.slot,.int .i64 g.n,.slice lt.aK g.keys.length lt.cK,.bool g.done,.int .i64 g.e] 47:=⟨_,rfl⟩
    obtain⟨V6,hV6⟩:∃ V6,V6=V5.alloc of:=⟨_,rfl⟩
    have hb6:Below V5.heap.size V5 V6:=by rw[hV6];exact Ad _ _
    have hF6:V6.heap[V5.heap.size]?=some of:=by rw[hV6];exact heap_alloc_new _ _
    have S6:=S5.below hb6
    have HSv6:Hid _:=S6
    have hC6:=(hb6.block _ (lt_of_block HC5.out)).trans HC5.out
    have HC6:Hid (V6.heap[CB]?=some (.cells #[.int .i64 c.kind,.int .i64 c.a,.int .i64 c.b,.int .i64 c.time,.int .i64 c.bk,.int .i64 c.slot] 32 (0,0))):=hC6
    subst hof
    have HF6:Hid (V6.heap[V5.heap.size]?=some (.cells #[.int .i64 g.c.kind,.int .i64 g.c.a,.int .i64 g.c.b,.int .i64 g.c.time,.int .i64 g.c.bk,.int .i64 g.c.slot,.int .i64 g.pl,.int .i64 g.cur,.int .i64 g.prev,.int .i64 g.slot,.int .i64 g.n,.slice lt.aK g.keys.length lt.cK,.bool g.done,.int .i64 g.e] 47 (0,0))):=hF6
    have f0:V6.cell? ⟨X13,0,none⟩=some (.func (.func 43) #[] #[.pointer (some ⟨X11,0,none⟩)]):=by rw[cell_of_block S6.h13];rfl
    have k1:V6.cell? ⟨CB,1,none⟩=some (.int .i64 c.a):=by rw[cell_of_block hC6];rfl
    have k2:V6.cell? ⟨CB,2,none⟩=some (.int .i64 c.b):=by rw[cell_of_block hC6];rfl
    have HV5:Hid (V5=w4.setCells X9 0 [.slice aS4 W2.m.slots.length cS4,.slice aH4 W2.m.heads.length cH4,.slice aF4 W2.m.free.length cF4,.slice aL4 W2.m.locks.length cL4,.int .i64 W2.m.now,.slice (some ⟨pT,qT,none⟩) W2.ts.length cT4]):=hV5
    have HV6:Hid (V6=V5.alloc (.cells #[.int .i64 g.c.kind,.int .i64 g.c.a,.int .i64 g.c.b,.int .i64 g.c.time,.int .i64 g.c.bk,.int .i64 g.c.slot,.int .i64 g.pl,.int .i64 g.cur,.int .i64 g.prev,.int .i64 g.slot,.int .i64 g.n,.slice lt.aK g.keys.length lt.cK,.bool g.done,.int .i64 g.e] 47)):=hV6
    have HW2:Hid (W2=⟨X,[⟨false,g,h'⟩]⟩):=hW2
    have hcf:∀ args W,(callFunc 43 args).run Tryz.prog W=.ok (.enter 43 args) W:=b7p
    have HFd:Hid (∀ (i j:Int),Calls Tryz.prog 43 #[.agg #[.int .i64 i,.int .i64 j],.pointer (some ⟨X11,0,none⟩)] V6 fun e w'=>∃ i':Int,e=.returned (.int .i64 i')/\a2h l (isK (i,j)) i'/\Below V6.heap.size V6 w'):=fun i j=>a0o i j X11 base v l V6 S6.h11 S6.hE (by have:=Vb HI.out.okc HSo.out;omega)
    clear hw4 hor hb4 hb4' hq hid S4 S5 S6 hV5 hV6 hW2 hb6 hF6 hC6 hrt hlen2 hz4 HO HEn HSv3 HC3 Hbd HC5 HIn x2 hz3 hzV ha4
    go_wp2_with (first|(rw[<- HV5.out];clear HV5)|(rw[<- HV6.out];clear HV6)|(have h9:=lF.out;refine Zz rfl _ rfl rfl h9 ?_;clear h9 lF)|(have h9:=t6.out;refine Qd rfl _ _ rfl rfl rfl h9 (by kernel_rfl) ?_;clear h9 t6))
    rename_i KF hKF KG hKG
    have HKF:Hid _:=hKF
    clear hKF
    refine(HFd.out c.a c.b).mono ?_
    rintro e w7 ⟨i,rfl,hi,hb7⟩
    have HIx:Hid (a2h l (isK (c.a,c.b)) i):=hi
    have HSv7:Hid _:=HSv6.out.below hb7
    have HC7:Hid _:=(hb7.block _ (lt_of_block HC6.out)).trans HC6.out
    have HF7:Hid _:=(hb7.block _ (lt_of_block HF6.out)).trans HF6.out
    clear hi hb7 HFd HSv6 HC6 HF6 f0 k1 k2
    go_wp2_with fail
    refine HKF.out _ _ ?_
    clear HKF x5 hne2 hpos2
    generalize V5.heap.size=FB at *
    refine wp_seq_k fun KS hKS=>?_
    have tail2:∀ (u18 u19 u20 u21 u22 u23 u24 u75 u76 u77 u78 u79 u80 u81 u82 u83 u84 u85 u86 u87 u88 u89 u90 u91 u92 u93 u94 u95 u96 u97 u98 u99 u100 u101 u102 u103 u104 u105 u106 u107 u108 u109 u110 u111 u112 u113 u114 u115 u116 u117 u118 u119 u120 u121 u122 u123 u124 u125 u126 u127 u128 u129 u130 u131 u132 u133 u134 u135 u136 u137 u138 u139 u140 u141 u142 u143 u144 u145 u146 u147 u148 u149 u150 u151 u152 u153 u154 u155 u156 u157 u158 u159 u160 u161 u162 u163 u164 u165 u166 u167 u168 u169 u170 u171 u172 u173 u174 u175 u176 u177 u178 u179 u180 u181 u182 u183 u184 u185 u186 u187 u188 u189 u190 u191 u192 u193 u194 u195 u196 u197 u198 u199 u200 u201 u202 u203 u204:Value) (V:World),Hid (SoI w V base X5 X9 X11 X13 GM nb (k+1))->KS ⟨#[.int .i64 many,.int .i64 (nb:Int),.slice (some ⟨bC,oC,none⟩) cl.length cC,.slice aK tk.length cK,undef,.pointer (some ⟨X5,0,none⟩),undef,undef,u8,.pointer (some ⟨X9,0,none⟩),.int .i64 0,.pointer (some ⟨X11,0,none⟩),.map (some GM),.pointer (some ⟨X13,0,none⟩),.int .i64 (k:Int),.pointer (some ⟨CB,0,none⟩),u16,u17,u18,u19,u20,u21,u22,u23,u24,u25,u26,u27,u28,u29,u30,u31,u32,u33,u34,u35,u36,u37,u38,u39,u40,u41,u42,u43,u44,.slice (some ⟨bC,oC,none⟩) m cC,.int .i64 (m:Int),.int .i64 (k:Int),u48,u49,u50,u51,u52,u53,u54,u55,u56,u57,u58,u59,u60,u61,u62,u63,u64,u65,u66,u67,u68,u69,u70,u71,u72,u73,u74,u75,u76,u77,u78,u79,u80,u81,u82,u83,u84,u85,u86,u87,u88,u89,u90,u91,u92,u93,u94,u95,u96,u97,u98,u99,u100,u101,u102,u103,u104,u105,u106,u107,u108,u109,u110,u111,u112,u113,u114,u115,u116,u117,u118,u119,u120,u121,u122,u123,u124,u125,u126,u127,u128,u129,u130,u131,u132,u133,u134,u135,u136,u137,u138,u139,u140,u141,u142,u143,u144,u145,u146,u147,u148,u149,u150,u151,u152,u153,u154,u155,u156,u157,u158,u159,u160,u161,u162,u163,u164,u165,u166,u167,u168,u169,u170,u171,u172,u173,u174,u175,u176,u177,u178,u179,u180,u181,u182,u183,u184,u185,u186,u187,u188,u189,u190,u191,u192,u193,u194,u195,u196,u197,u198,u199,u200,u201,u202,u203,u204,u205,u206,u207,u208,u209,u210,u211,u212,u213,u214,u215,u216,u217,u218,u219,u220,u221,u222,u223,u224],[]⟩ V:=by
     intros
     rename_i V HS
     refine hKS _ _ ?_
     clear hKS HKP HSv7 HC7 HF7 HIx HOi HOs HOn HOh HI HTs HNh HSo HCn Hn HBz HW2 Hfr
     obtain⟨W,t,cs,v,l,n,f,a,b,S,I,hts,hidle,hnh,hsol,hcnt,hn⟩:=HS.out
     obtain⟨aS,aH,aF,aL,cS,cH,cF,cL,aT,cT,lt,e,-⟩:=S.hw V (fun _ _ _=>rfl)
     have ecs:=Value.agg.inj e
     subst ecs
     obtain⟨ao,cap,rfl⟩:=D9 S.hE.own
     have hform:=Z8 hts hidle
     have I':Bi ⟨W.m,[⟨false,t.f,t.held⟩]⟩:=by rw[<- hform];exact I
     obtain⟨LF,hLF⟩:∃ LF,LF=Bf W.m:=⟨_,rfl⟩
     have hfl:=Xt I' hsol
     rw[<- hLF] at hfl
     have l6:Hid (V.rangeAt X9 0 [.slice aS W.m.slots.length cS,.slice aH W.m.heads.length cH,.slice aF W.m.free.length cF,.slice aL W.m.locks.length cL,.int .i64 W.m.now,.slice aT W.ts.length cT]):=Bz S.h9 rfl
     have HSv:Hid _:=S
     have HFl:Hid (Calls Tryz.prog 28 #[.agg #[.slice aS W.m.slots.length cS,.slice aH W.m.heads.length cH,.slice aF W.m.free.length cF,.slice aL W.m.locks.length cL,.int .i64 W.m.now,.slice aT W.ts.length cT]] V fun e w'=>∃ af cf,e=.returned (.tuple #[.slice af LF.length cf,.int .i64 0])/\Qb w' af cf LF/\Below V.heap.size V w'):=by
      have h:=Yo I (S.hw V (fun _ _ _=>rfl))
      rw[show Gx W.m=LF by rw[hLF];exact a2u I.okc] at h
      refine h.mono ?_
      rintro e w' ⟨af,cf,rfl,hO,hb⟩
      exact⟨af,cf,rfl,Qb.own hO (by rw[hLF];exact Ox I.okc),hb⟩
     have hnl:((LF.length:Int) != (l.length:Int))=false:=by rw[hfl.1];simp
     have Hfl:Hid _:=hfl
     have HI:Hid (Bi W):=I
     have HCn:Hid (∀ y:Int,f y=(t.held.count y:Int)):=hcnt
     have HLF:Hid (LF.length<=12):=by show _<=_;rw[hLF];exact Ox I.okc
     have hmf2:∀ (fn:Fn) (first cap:Array Value) (w:World),(Instr.makeFunc fn first cap).run Tryz.prog w=.ok (.func fn first cap) w:=fun _ _ _ _=>rfl
     clear S I I' hts hidle hnh hsol hcnt hn hform hLF hfl e
     go_wp2_with (have h9:=l6.out;refine Ky rfl _ rfl rfl h9 ?_;clear h9 l6)
     refine HFl.out.mono ?_
     rintro e w8 ⟨af,cf,rfl,hF8,hb8⟩
     have HS8:Hid (SoI w w8 base X5 X9 X11 X13 GM nb (k+1)):=HS.out.below hb8
     have HSv8:Hid _:=HSv.out.below hb8
     have HF8:Hid (Qb w8 af cf LF):=hF8
     have c11:w8.cell? ⟨X11,0,none⟩=some (.slice ao l.length cap):=by rw[cell_of_block HSv8.out.h11];rfl
     have HSo:Hid (Calls Tryz.prog 50 #[.pointer (some ⟨X9,0,none⟩),.slice af LF.length cf,.map (some GM),.func (.func 51) #[] #[.pointer (some ⟨X13,0,none⟩),.pointer (some ⟨X11,0,none⟩)]] w8 fun e w'=>e=.returned (.bool true)/\Below w8.heap.size w8 w'):=by
      obtain⟨h1,h2,h3,h4,h5,h6⟩:=Hfl.out
      obtain⟨lt2,A2,-⟩:=(HSv8.out.hw w8 (fun _ _ _=>rfl)).parts
      exact b2p W aS aH aF aL cS cH cF cL aT cT LF af cf GM n X9 f _ w8 HSv8.out.h9 A2 HI.out.okc.ok.ns HF8.out HLF.out HSv8.out.hm (fun y V' hy hb=>b9b X13 X11 base _ l y V' ((hb.block _ (lt_of_block HSv8.out.h13)).trans HSv8.out.h13) ((hb.block _ (lt_of_block HSv8.out.h11)).trans HSv8.out.h11) (HSv8.out.hE.below hb) (by have:=HLF.out;omega) (h2 y hy)) h3 (fun a hl=>by rw[h4 a hl,HCn.out]) h5
     clear hF8 hb8 HS HSv HFl
     go_wp2_with fail
     refine HSo.out.mono ?_
     rintro e w9 ⟨rfl,hb9⟩
     have HS9:Hid (SoI w w9 base X5 X9 X11 X13 GM nb (k+1)):=HS8.out.below hb9
     clear hb9 HS8 HSv8 HF8 HSo c11 hnl Hfl HLF HCn HI
     go_wp2_with fail
     refine HKR.out _ _ ?_
     go_wp2
     go_roundw
     case rel=>exact⟨k+1,by omega,by go_num,HS9⟩
     case measure=>simp[intOf];omega
    have HT2:Hid _:=tail2
    clear tail2 hKS HKR
    have HMk:Hid (∀ (V:World) (v':Value) (n':Nat) (f':Int->Int),Sv w V base X5 X9 X11 X13 GM nb W2 #[.slice aS4 W2.m.slots.length cS4,.slice aH4 W2.m.heads.length cH4,.slice aF4 W2.m.free.length cF4,.slice aL4 W2.m.locks.length cL4,.int .i64 W2.m.now,.slice (some ⟨pT,qT,none⟩) W2.ts.length cT4] v' l' n' f' a4 b4->(∀ y:Int,f' y=(h'.count y:Int))->n'<=k+1->SoI w V base X5 X9 X11 X13 GM nb (k+1)):=fun V v' n' f' S h1 h2 =>
     ⟨W2,⟨false,g,h'⟩,_,v',l',n',f',a4,b4,S,by rw[HW2.out];exact HOi.out,by rw[HW2.out],rfl,by rw[HW2.out];exact HOh.out,by rw[HW2.out];exact HOs.out,h1,h2⟩
    have hnk:n<=k:=Hn.out
    have hn40:n<=40:=by omega
    have hnx:n<maxLen:=by unfold maxLen;omega
    have k0:w7.cell? ⟨CB,0,none⟩=some (.int .i64 c.kind):=by rw[cell_of_block HC7.out];rfl
    have fe:w7.cell? ⟨FB,13,none⟩=some (.int .i64 g.e):=by rw[cell_of_block HF7.out];rfl
    rcases HKP.out with ⟨hk1,rfl,hh,hiff⟩|⟨hk1,rfl,hadd⟩|⟨hk1,rfl,hl',hiff⟩|⟨hk1,rfl,hl',hgn⟩|⟨hk1,rfl,rfl⟩|⟨hk1,hmem,hh,rfl⟩
    · -- Look
     obtain⟨l,rfl⟩:∃ y,y=l':=⟨_,rfl⟩
     have q1:(c.kind==1)=true:=by rw[hk1];rfl
     have q2:(c.kind==2)=false:=by rw[hk1];rfl
     have q3:(c.kind==3)=false:=by rw[hk1];rfl
     have q4:(c.kind==4)=false:=by rw[hk1];rfl
     have q6:(c.kind==6)=false:=by rw[hk1];rfl
     clear hk1
     have hnowE:W2.m.now=W.m.now:=by rw[HW2.out];exact HOn.out
     rcases Oz HIx.out with ⟨rfl,hno⟩|⟨j,rfl,hj,hfd,-⟩
     ·have hge:¬ g.e=0:=fun h=>by
       obtain⟨e,he,-⟩:=hiff.1 h
       rw[hno] at he
       cases he
      have e0:(g.e==0)=false:=by simpa using hge
      have HS8:Hid (∀ V,Below w7.heap.size w7 V->SoI w V base X5 X9 X11 X13 GM nb (k+1)):=fun V hb=>(HMk.out w7 v n f HSv7.out (fun y=>by rw[hh,if_neg hge];exact HCn.out y) (by omega)).below hb
      clear hiff hno hh HMk hge hnowE HKP HIx HSv7
      go_wp2_with fail
      go_quiet (fail)
      obtain⟨w8,hw8⟩:∃ w8,w8=w7.drewN nq:=⟨_,rfl⟩
      rw[<- hw8]
      have hb8:Below w7.heap.size w7 w8:=by rw[hw8];exact Md _ _
      have fe8:w8.cell? ⟨FB,13,none⟩=some (.int .i64 g.e):=by rw[(Eg hb8).1 _ _ (cell_lt fe)];exact fe
      have HS9:Hid (SoI w w8 base X5 X9 X11 X13 GM nb (k+1)):=HS8.out w8 hb8
      clear hw8 hb8 fe HS8
      go_wp2_with fail
      apply HT2.out
      exact HS9
     obtain⟨gl,cc,rfl,hcap,c0,c1,c2,-,-⟩:=HSv7.out.hE.at_ hj
     have x11:w7.cell? ⟨X11,0,none⟩=some (.slice (some ⟨gl,0,none⟩) l.length cc):=by rw[cell_of_block HSv7.out.h11];rfl
     have x4:w7.cell? ⟨X9,4,none⟩=some (.int .i64 W2.m.now):=by rw[cell_of_block HSv7.out.h9];rfl
     have hj':(j:Int)<(l.length:Int):=by omega
     have hj0:(0:Int)<=(j:Int):=Int.natCast_nonneg j
     have hlv0:g.e=0 ↔ W2.m.now<l[j].2:=by
      rw[hiff,hnowE]
      constructor
      ·rintro ⟨e,he,h⟩
       rw[hfd] at he
       injection he with he
       rw[he];exact h
      ·exact fun h=>⟨_,hfd,h⟩
     generalize l[j].2=u at c2 hlv0
     by_cases hlv:W2.m.now<u
     rotate_left
     ·have hge:¬ g.e=0:=fun h=>hlv (hlv0.1 h)
      have e0:(g.e==0)=false:=by simpa using hge
      have HS8:Hid (∀ V,Below w7.heap.size w7 V->SoI w V base X5 X9 X11 X13 GM nb (k+1)):=fun V hb=>(HMk.out w7 _ n f HSv7.out (fun y=>by rw[hh,if_neg hge];exact HCn.out y) (by omega)).below hb
      clear hiff hh HMk hge hnowE HKP HIx HSv7 hfd hlv0 c0 c1
      go_wp2_with fail
      go_quiet (fail)
      obtain⟨w8,hw8⟩:∃ w8,w8=w7.drewN nq:=⟨_,rfl⟩
      rw[<- hw8]
      have hb8:Below w7.heap.size w7 w8:=by rw[hw8];exact Md _ _
      have fe8:w8.cell? ⟨FB,13,none⟩=some (.int .i64 g.e):=by rw[(Eg hb8).1 _ _ (cell_lt fe)];exact fe
      have HS9:Hid (SoI w w8 base X5 X9 X11 X13 GM nb (k+1)):=HS8.out w8 hb8
      clear hw8 hb8 fe HS8 x11 x4 c2
      go_wp2_with fail
      apply HT2.out
      exact HS9
     have hge:g.e=0:=hlv0.2 hlv
     have e0:(g.e==0)=true:=by simpa using hge
     have hsl:=X4 HOi.out rfl (a:=g.slot) (by rw[hh,if_pos hge];simp)
     have hcv:=X3 HI.out HTs.out g.slot
     rw[<- HCn.out] at hcv
     have hcw:wrap64 (f g.slot+1)=f g.slot+1:=by unfold wrap64;omega
     have HWv:Hid ((Lit.int .i64 (f g.slot+1)).wf=true):=wf64 (by omega) (by omega)
     have HWf:Hid ((Lit.int .i64 g.slot).wf=true):=wf64 (by omega) (by omega)
     have HCt:Hid (∀ y:Int,(if y=g.slot then f g.slot+1 else f y)=(h'.count y:Int)):=fun y=>by
      rw[hh,if_pos hge]
      exact a2p HCn.out _ y
     clear hiff hh hnowE HKP HIx hfd hlv0 c0 c1 hge hsl hcv
     go_wp2_with fail
     go_quiet (fail)
     obtain⟨w8,hw8⟩:∃ w8,w8=w7.drewN nq:=⟨_,rfl⟩
     rw[<- hw8]
     have hb8:Below w7.heap.size w7 w8:=by rw[hw8];exact Md _ _
     have hF8:=(hb8.block _ (lt_of_block HF7.out)).trans HF7.out
     have fe8:w8.cell? ⟨FB,13,none⟩=some (.int .i64 g.e):=by rw[cell_of_block hF8];rfl
     have fs8:w8.cell? ⟨FB,9,none⟩=some (.int .i64 g.slot):=by rw[cell_of_block hF8];rfl
     have S8:=HSv7.out.below hb8
     have HSv8:Hid _:=S8
     have hlk:=S8.hm.look HWf.out
     obtain⟨D,ho,hat⟩:=id S8.hm
     have HO:Hid (w8.ownsMap Tryz.prog 3 (plainElem Tryz.prog 3) GM n D):=ho
     have HAt:Hid (∀ x:Int,D.atKey (.int .i64 x) (.lit (.int .i64 0))=.lit (.int .i64 (f x))):=hat
     obtain⟨fc,hfc⟩:∃ fc,fc=f g.slot:=⟨_,rfl⟩
     rw[<- hfc] at hlk hcw HWv HCt
     clear hfc ho hat S8 hw8 hb8 fe x11 x4 c2 hF8 HSv7
     go_wp2_with (at_mapUpdate;(refine wpList_mapUpdate_own (H:=Unit) _ rfl _ _ _ 84 rfl 3 3 law3 Vg (plainElem Tryz.prog 3) GM n D rfl HO.out hnx _ _ (.int .i64 g.slot) rfl rfl (keyOf_int_mk Tryz.underlying3 HWf.out) (.lit (.int .i64 (fc+1))) [] (by rw[hcw];exact plainElem_int Tryz.underlying3 HWv.out) ?_;intro w9 ho9 hg9))
     apply HT2.out
     exact HMk.out w9 _ (n+1) _ (HSv8.out.setM hg9 (Jf.put HO.out HAt.out ho9)) HCt.out (by omega)
    · -- Add
     have htm:=HTm.out hk1
     have q1:(c.kind==1)=false:=by rw[hk1];rfl
     have q2:(c.kind==2)=true:=by rw[hk1];rfl
     have q3:(c.kind==3)=false:=by rw[hk1];rfl
     have q4:(c.kind==4)=false:=by rw[hk1];rfl
     have q6:(c.kind==6)=false:=by rw[hk1];rfl
     clear hk1
     have hnowE:W2.m.now=W.m.now:=by rw[HW2.out];exact HOn.out
     rcases hadd with ⟨hf0,hge,rfl⟩|⟨hf0,hso,hge,rfl⟩|⟨hf0,hno,hge,hl'⟩
     ·have e1:((W.m.free.length:Int)==0)=true:=by rw[hf0];rfl
      have e0:(g.e != 7)=false:=by rw[hge];rfl
      have HS8:Hid (SoI w w7 base X5 X9 X11 X13 GM nb (k+1)):=HMk.out w7 v n f HSv7.out HCn.out (by omega)
      clear HMk HSv7 HIx HKP hf0 hge hnowE
      generalize (W.m.free.length:Int)=fl at *
      go_wp2_with fail
      apply HT2.out
      exact HS8
     ·have e1:((W.m.free.length:Int)==0)=false:=by simpa using hf0
      have e0:(g.e != 6)=false:=by rw[hge];rfl
      rcases Oz HIx.out with ⟨rfl,hno⟩|⟨j,rfl,hj,-,-⟩
      ·rw[hno] at hso;cases hso
      have hj0:(0:Int)<=(j:Int):=Int.natCast_nonneg j
      have HS8:Hid (SoI w w7 base X5 X9 X11 X13 GM nb (k+1)):=HMk.out w7 v n f HSv7.out HCn.out (by omega)
      clear HMk HSv7 HIx HKP hf0 hge hnowE hso hj
      generalize (W.m.free.length:Int)=fl at *
      go_wp2_with fail
      apply HT2.out
      exact HS8
     ·have e1:((W.m.free.length:Int)==0)=false:=by simpa using hf0
      have e0:(g.e != 0)=false:=by rw[hge];rfl
      rcases Oz HIx.out with ⟨rfl,-⟩|⟨j,rfl,hj,hfd,-⟩
      rotate_left
      ·rw[hno] at hfd;cases hfd
      obtain⟨ao,cap,rfl⟩:=D9 HSv7.out.hE.own
      have hbig:=Vb HI.out.okc HSo.out
      have hnw:=HI.out.okc.ok.now
      rw[<- hnowE] at hnw hl'
      have x11:w7.cell? ⟨X11,0,none⟩=some (.slice ao l.length cap):=by rw[cell_of_block HSv7.out.h11];rfl
      have x4:w7.cell? ⟨X9,4,none⟩=some (.int .i64 W2.m.now):=by rw[cell_of_block HSv7.out.h9];rfl
      have k1:w7.cell? ⟨CB,1,none⟩=some (.int .i64 c.a):=by rw[cell_of_block HC7.out];rfl
      have k2:w7.cell? ⟨CB,2,none⟩=some (.int .i64 c.b):=by rw[cell_of_block HC7.out];rfl
      have k3:w7.cell? ⟨CB,3,none⟩=some (.int .i64 c.time):=by rw[cell_of_block HC7.out];rfl
      have hww:wrap64 (W2.m.now+c.time)=W2.m.now+c.time:=by unfold wrap64;omega
      obtain⟨i0,hi0,hz0,hz1,hz2⟩:=info_parts iEn
      have ho:=HSv7.out.hE.own
      have hlo:=HSv7.out.lo
      have HFin:Hid (∀ (u:Int) (o:Obj) (w9:World) (v9:Value),l'=l ++ [((c.a,c.b),u)]->w9.ownsRow base 87 3 v9 (l.length+1) (Gu l ++ [.int .i64 c.a,.int .i64 c.b,.int .i64 u])->(w7.alloc o).grownBy w9 (Value.slice ao l.length cap).ownBlock->(v9.ownBlock=(Value.slice ao l.length cap).ownBlock\/v9.ownBlock=some (w7.alloc o).heap.size)->SoI w (w9.setCell ⟨X11,0,none⟩ v9) base X5 X9 X11 X13 GM nb (k+1)/\w9.heap[X11]?=some (.cells #[.slice ao l.length cap] 83 (0,0))):=fun u o w9 v9 hl ho9 hg9 hloc=>by
       have hsz:(w7.alloc o).heap.size=w7.heap.size+1:=by simp
       have hgs:=hg9.size
       have hf:Fine w7 w9 (fun k=>(Value.slice ao l.length cap).ownBlock=some k):=⟨hg9.os,hg9.tape,hg9.output,by omega,fun k h1 h2=>(hg9.block k (by omega) (fun e=>h2 e.symm)).trans (Below.heap_alloc _ _ _ h1)⟩
       have hE9:EO w9 base v9 l':=⟨by rw[hl,List.length_append,b0l];exact ho9⟩
       refine⟨HMk.out _ _ n f (HSv7.out.Xl hf hE9 (hloc.elim .inl (fun e=>.inr ⟨_,e,by omega⟩))) HCn.out (by omega),(hf.block _ (lt_of_block HSv7.out.h11) (fun e=>by have:=(HSv7.out.hE.own.lt _ e).1;have:=HSv7.out.top;omega)).trans HSv7.out.h11⟩
      have HN:Hid (∀ (u:Int) (j:Nat) (x:Value),[Value.int .i64 c.a,.int .i64 c.b,.int .i64 u][j]?=some x->(w7.alloc (.cells #[.int .i64 c.a,.int .i64 c.b,.int .i64 u] 87)).cell? ((⟨w7.heap.size,0,none⟩:Addr).add j)=some x):=fun u j x hx=>a9e w7 _ _ _ _ j x hx
      clear HKP HIx hf0 hge hno hnw hnowE HSv7 HMk
      by_cases hmn:2000000<W2.m.now+c.time
      ·rw[if_pos hmn] at hl'
       have HLe:Hid (l'=l ++ [((c.a,c.b),2000000)]):=hl'
       have hmn2:¬ (W2.m.now+c.time<=2000000):=by omega
       have hmn3:¬ (W2.m.now+c.time<2000000):=by omega
       clear hl'
       go_wp2_with (at_builtin;refine wpList_append_own_at _ rfl (.tmp 144) (.tmp 155) 83 rfl base 87 i0 (.agg #[.int .i64 0,.int .i64 0,.int .i64 0]) 3 24 Tryz.underlying83 hi0 hz0 hz1 hz2 rfl (by decide) _ _ _ rfl (ho.alloc _) ⟨w7.heap.size,0,none⟩ 1 1 [.int .i64 c.a,.int .i64 c.b,.int .i64 2000000] rfl rfl (HN.out _) (by intro x hx;simp only[List.mem_cons,List.not_mem_nil,or_false] at hx;rcases hx with rfl|rfl|rfl <;> rfl) (by unfold maxLen;omega) (by omega) (by simp;omega) ?_;intro v2 w9 ho2 hg2 _ hloc2;obtain⟨g2,cap2,rfl⟩:=ownsRow_form ho2 (by omega);have hfin:=HFin.out _ _ _ _ HLe.out ho2 hg2 hloc2;obtain⟨y0,y1,y2⟩:=Aq hfin.2;have HS9:Hid _:=hfin.1;clear hfin ho2 hg2 hloc2)
       apply HT2.out
       exact HS9
      ·rw[if_neg hmn] at hl'
       have HLe:Hid (l'=l ++ [((c.a,c.b),W2.m.now+c.time)]):=hl'
       have hmn2:W2.m.now+c.time<=2000000:=by omega
       clear hl'
       go_wp2_with (at_builtin;refine wpList_append_own_at _ rfl (.tmp 144) (.tmp 155) 83 rfl base 87 i0 (.agg #[.int .i64 0,.int .i64 0,.int .i64 0]) 3 24 Tryz.underlying83 hi0 hz0 hz1 hz2 rfl (by decide) _ _ _ rfl (ho.alloc _) ⟨w7.heap.size,0,none⟩ 1 1 [.int .i64 c.a,.int .i64 c.b,.int .i64 (W2.m.now+c.time)] rfl rfl (HN.out _) (by intro x hx;simp only[List.mem_cons,List.not_mem_nil,or_false] at hx;rcases hx with rfl|rfl|rfl <;> rfl) (by unfold maxLen;omega) (by omega) (by simp;omega) ?_;intro v2 w9 ho2 hg2 _ hloc2;obtain⟨g2,cap2,rfl⟩:=ownsRow_form ho2 (by omega);have hfin:=HFin.out _ _ _ _ HLe.out ho2 hg2 hloc2;obtain⟨y0,y1,y2⟩:=Aq hfin.2;have HS9:Hid _:=hfin.1;clear hfin ho2 hg2 hloc2)
       apply HT2.out
       exact HS9
    · -- Drop
     have q1:(c.kind==1)=false:=by rw[hk1];rfl
     have q2:(c.kind==2)=false:=by rw[hk1];rfl
     have q3:(c.kind==3)=true:=by rw[hk1];rfl
     have q4:(c.kind==4)=false:=by rw[hk1];rfl
     have q6:(c.kind==6)=false:=by rw[hk1];rfl
     clear hk1
     rcases Oz HIx.out with ⟨rfl,hno⟩|⟨j,rfl,hj,hfd,her⟩
     ·have hge:¬ g.e=0:=fun h=>by have:=hiff.1 h;rw[hno] at this;cases this
      have e0:(g.e==0)=false:=by simpa using hge
      have hll:l'=l:=by rw[hl'];exact Wj hno
      subst hll
      have HS8:Hid (SoI w w7 base X5 X9 X11 X13 GM nb (k+1)):=HMk.out w7 v n f HSv7.out HCn.out (by omega)
      clear hiff hno HMk hge HKP HIx HSv7 hl'
      go_wp2_with fail
      apply HT2.out
      exact HS8
     obtain⟨gl,cc,rfl,hcap,-,-,-,-,-⟩:=HSv7.out.hE.at_ hj
     have hge:g.e=0:=hiff.2 (by rw[hfd];rfl)
     have e0:(g.e==0)=true:=by simpa using hge
     have hll:l'=l.eraseIdx j:=by rw[hl',her]
     have hbig:=Vb HI.out.okc HSo.out
     have x11:w7.cell? ⟨X11,0,none⟩=some (.slice (some ⟨gl,0,none⟩) l.length cc):=by rw[cell_of_block HSv7.out.h11];rfl
     have hj0:(0:Int)<=(j:Int):=Int.natCast_nonneg j
     have hjw:wrap64 ((j:Int)+1)=((j+1:Nat):Int):=by unfold wrap64;omega
     have HDl:Hid (Calls Tryz.prog 46 #[.slice (some ⟨gl,0,none⟩) l.length cc,.int .i64 (j:Int),.int .i64 ((j+1:Nat):Int)] w7 fun e w'=>e=.returned (.slice (some ⟨gl,0,none⟩) l'.length cc)/\EO w' base (.slice (some ⟨gl,0,none⟩) l'.length cc) l'/\Fine w7 w' (fun k=>(Value.slice (some ⟨gl,0,none⟩) l.length cc).ownBlock=some k)):=by
      rw[hll]
      refine(b4l gl cc j (j+1) base l w7 HSv7.out.hE hj rfl (by omega)).mono ?_
      rintro e w' ⟨rfl,hE,hf⟩
      exact⟨rfl,hE,hf.os,hf.tape,hf.output,hf.size,fun k h1 h2=>hf.block k h1 (fun e=>h2 (by rw[e];rfl))⟩
     have HSt:Hid (∀ w8,EO w8 base (.slice (some ⟨gl,0,none⟩) l'.length cc) l'->Fine w7 w8 (fun k=>(Value.slice (some ⟨gl,0,none⟩) l.length cc).ownBlock=some k)->SoI w (w8.setCell ⟨X11,0,none⟩ (.slice (some ⟨gl,0,none⟩) l'.length cc)) base X5 X9 X11 X13 GM nb (k+1)):=fun w8 hE hf=>HMk.out _ _ n f (HSv7.out.Xl hf hE (.inl rfl)) HCn.out (by omega)
     have H11:Hid (∀ w8,Fine w7 w8 (fun k=>(Value.slice (some ⟨gl,0,none⟩) l.length cc).ownBlock=some k)->w8.heap[X11]?=some (.cells #[.slice (some ⟨gl,0,none⟩) l.length cc] 83 (0,0))):=fun w8 hf=>(hf.block _ (lt_of_block HSv7.out.h11) (fun e=>by have:=(HSv7.out.hE.own.lt _ e).1;have:=HSv7.out.top;omega)).trans HSv7.out.h11
     clear hiff hfd her hge HKP HIx HSv7 hl' hll HMk hcap
     go_wp2_with fail
     refine HDl.out.mono ?_
     rintro e w8 ⟨rfl,hE8,hf8⟩
     obtain⟨y0,y1,y2⟩:=Aq (H11.out w8 hf8)
     have HS9:Hid _:=HSt.out w8 hE8 hf8
     clear hE8 hf8 H11 HSt x11 fe k0
     go_wp2_with fail
     apply HT2.out
     exact HS9
    · -- Sweep
     have q1:(c.kind==1)=false:=by rw[hk1];rfl
     have q2:(c.kind==2)=false:=by rw[hk1];rfl
     have q3:(c.kind==3)=false:=by rw[hk1];rfl
     have q4:(c.kind==4)=true:=by rw[hk1];rfl
     have q6:(c.kind==6)=false:=by rw[hk1];rfl
     clear hk1
     have hnowE:W2.m.now=W.m.now:=by rw[HW2.out];exact HOn.out
     have hbig:=Vb HI.out.okc HSo.out
     obtain⟨ao,cap,rfl⟩:=D9 HSv7.out.hE.own
     have x11:w7.cell? ⟨X11,0,none⟩=some (.slice ao l.length cap):=by rw[cell_of_block HSv7.out.h11];rfl
     have hKl:∀ x∈l,Ee x.1.1 x.1.2=true:=(Xt (by have h:=HI.out;rw[Z8 HTs.out HBz.out] at h;exact h) HSo.out).2.2.2.2.2
     have H11:Hid (∀ w8,Fine w7 w8 (fun k=>(Value.slice ao l.length cap).ownBlock=some k)->(w8.heap[X11]?=some (.cells #[.slice ao l.length cap] 83 (0,0))/\w8.heap[X5]?=some (.cells #[.int .i64 (nb:Int)] 3 (0,0))/\w8.heap[X9]?=some (.cells #[.slice aS4 W2.m.slots.length cS4,.slice aH4 W2.m.heads.length cH4,.slice aF4 W2.m.free.length cF4,.slice aL4 W2.m.locks.length cL4,.int .i64 W2.m.now,.slice (some ⟨pT,qT,none⟩) W2.ts.length cT4] 28 (0,0))/\w8.heap[CB]?=some (.cells #[.int .i64 c.kind,.int .i64 c.a,.int .i64 c.b,.int .i64 c.time,.int .i64 c.bk,.int .i64 c.slot] 32 (0,0))/\w8.heap[FB]?=some (.cells #[.int .i64 g.c.kind,.int .i64 g.c.a,.int .i64 g.c.b,.int .i64 g.c.time,.int .i64 g.c.bk,.int .i64 g.c.slot,.int .i64 g.pl,.int .i64 g.cur,.int .i64 g.prev,.int .i64 g.slot,.int .i64 g.n,.slice lt.aK g.keys.length lt.cK,.bool g.done,.int .i64 g.e] 47 (0,0)))):=fun w8 hf=>by
      have hlow:∀ gg,(Value.slice ao l.length cap).ownBlock=some gg->base<=gg:=fun gg e=>(HSv7.out.hE.own.lt _ e).1
      obtain⟨t1,t2,t3,t4,t5⟩:=HSv7.out.top
      refine⟨(hf.block _ (lt_of_block HSv7.out.h11) (fun e=>by have:=hlow _ e;omega)).trans HSv7.out.h11,(hf.block _ (lt_of_block HSv7.out.h5) (fun e=>by have:=hlow _ e;omega)).trans HSv7.out.h5,(hf.block _ (lt_of_block HSv7.out.h9) (fun e=>by have:=hlow _ e;omega)).trans HSv7.out.h9,(hf.block _ (lt_of_block HC7.out) (own_ne HSv7.out.hE.own HC7.out (by decide))).trans HC7.out,(hf.block _ (lt_of_block HF7.out) (own_ne HSv7.out.hE.own HF7.out (by decide))).trans HF7.out⟩
     have HDl:Hid (Calls Tryz.prog 47 #[.slice ao l.length cap,.func (.func 48) #[] #[.pointer (some ⟨X5,0,none⟩),.pointer (some ⟨CB,0,none⟩),.pointer (some ⟨X9,0,none⟩)]] w7 fun e w'=>∃ v',e=.returned v'/\EO w' base v' l'/\v'.ownBlock=(Value.slice ao l.length cap).ownBlock/\Fine w7 w' (fun k=>(Value.slice ao l.length cap).ownBlock=some k)):=by
      refine(a6h 48 #[.pointer (some ⟨X5,0,none⟩),.pointer (some ⟨CB,0,none⟩),.pointer (some ⟨X9,0,none⟩)] (fun x=>!Nq nb c.bk W2.m.now x) base (.slice ao l.length cap) l w7 HSv7.out.hE (by omega) fnE48 (fun x V' hx hf=>?_)).mono ?_
      ·obtain⟨-,h5,h9,hC,-⟩:=H11.out V' hf
       exact b9a nb n1 n4 c W2 aS4 aH4 aF4 aL4 cS4 cH4 cF4 cL4 (some ⟨pT,qT,none⟩) cT4 X5 CB X9 x (hKl x hx) V' h5 hC h9
      ·rintro e w' ⟨v',rfl,hE,h1,h2⟩
       refine⟨v',rfl,?_,h1,h2⟩
       have e1:l'=l.filter (fun x=>!(!Nq nb c.bk W2.m.now x)):=by
        rw[hl',HNh.out,hnowE]
        congr 1
        funext x
        rw[Bool.not_not]
       rw[e1]
       exact hE
     have HSt:Hid (∀ w8 v',EO w8 base v' l'->v'.ownBlock=(Value.slice ao l.length cap).ownBlock->Fine w7 w8 (fun k=>(Value.slice ao l.length cap).ownBlock=some k)->SoI w (w8.setCell ⟨X11,0,none⟩ v') base X5 X9 X11 X13 GM nb (k+1)):=fun w8 v' hE h1 hf=>HMk.out _ _ n f (HSv7.out.Xl hf hE (.inl h1)) HCn.out (by omega)
     have hgw:wrap64 ((l.length:Int) - (l'.length:Int))=g.n:=by
      rw[hgn]
      have:l'.length<=l.length:=by rw[hl'];exact List.length_filter_le _ _
      unfold wrap64
      omega
     have hgne:(g.n != g.n)=false:=by simp
     have hne11:FB≠X11:=by
      have h1:=HF7.out
      rintro rfl
      rw[HSv7.out.h11] at h1
      cases h1
     clear HKP HIx hl' hgn HMk hKl hnowE HSv7
     go_wp2_with fail
     refine HDl.out.mono ?_
     rintro e w8 ⟨v',rfl,hE8,h8,hf8⟩
     obtain⟨ao8,cap8,rfl⟩:=D9 hE8.own
     obtain⟨j11,-,-,-,jF⟩:=H11.out w8 hf8
     obtain⟨y0,y1,y2⟩:=Aq j11
     have HS9:Hid _:=HSt.out w8 _ hE8 h8 hf8
     have fn8:w8.cell? ⟨FB,10,none⟩=some (.int .i64 g.n):=by rw[cell_of_block jF];rfl
     have hFl:=lt_of_block jF
     clear hE8 h8 hf8 H11 HSt x11 fe k0 j11 jF HDl
     go_wp2_with fail
     apply HT2.out
     exact HS9
    · -- List
     have q1:(c.kind==1)=false:=by rw[hk1];rfl
     have q2:(c.kind==2)=false:=by rw[hk1];rfl
     have q3:(c.kind==3)=false:=by rw[hk1];rfl
     have q4:(c.kind==4)=false:=by rw[hk1];rfl
     have q6:(c.kind==6)=false:=by rw[hk1];rfl
     clear hk1
     have HS8:Hid (SoI w w7 base X5 X9 X11 X13 GM nb (k+1)):=HMk.out w7 v n f HSv7.out HCn.out (by omega)
     clear HMk HSv7 HC7 HF7 HIx HKP fe
     go_wp2_with fail
     apply HT2.out
     exact HS8
    · -- Leave
     have q1:(c.kind==1)=false:=by rw[hk1];rfl
     have q2:(c.kind==2)=false:=by rw[hk1];rfl
     have q3:(c.kind==3)=false:=by rw[hk1];rfl
     have q4:(c.kind==4)=false:=by rw[hk1];rfl
     have q6:(c.kind==6)=true:=by rw[hk1];rfl
     clear hk1
     have hsl:=X4 HI.out HTs.out hmem
     have hwf:(Lit.int .i64 c.slot).wf=true:=wf64 (by omega) (by omega)
     have hlk:=HSv7.out.hm.look hwf
     have hcv:=X3 HI.out HTs.out c.slot
     rw[<- HCn.out] at hcv
     have hc1:1<=f c.slot:=by rw[HCn.out];have:=List.count_pos_iff.2 hmem;omega
     have hcw:wrap64 (f c.slot - 1)=f c.slot - 1:=by unfold wrap64;omega
     have HWv:Hid ((Lit.int .i64 (f c.slot - 1)).wf=true):=wf64 (by omega) (by omega)
     have HWf:Hid ((Lit.int .i64 c.slot).wf=true):=hwf
     obtain⟨D,ho,hat⟩:=id HSv7.out.hm
     have HO:Hid (w7.ownsMap Tryz.prog 3 (plainElem Tryz.prog 3) GM n D):=ho
     have HAt:Hid (∀ x:Int,D.atKey (.int .i64 x) (.lit (.int .i64 0))=.lit (.int .i64 (f x))):=hat
     have HCt:Hid (∀ y:Int,(if y=c.slot then f c.slot - 1 else f y)=(h'.count y:Int)):=fun y=>by
      rw[hh]
      exact a2o HCn.out hmem y
     have k5:w7.cell? ⟨CB,5,none⟩=some (.int .i64 c.slot):=by rw[cell_of_block HC7.out];rfl
     have HSv8:=HSv7
     clear ho hat hh hmem hsl hcv hc1 hwf
     obtain⟨fc,hfc⟩:∃ fc,fc=f c.slot:=⟨_,rfl⟩
     rw[<- hfc] at hlk hcw HWv HCt
     clear hfc fe
     go_wp2_with (at_mapUpdate;(refine wpList_mapUpdate_own (H:=Unit) _ rfl _ _ _ 84 rfl 3 3 law3 Vg (plainElem Tryz.prog 3) GM n D rfl HO.out hnx _ _ (.int .i64 c.slot) rfl rfl (keyOf_int_mk Tryz.underlying3 HWf.out) (.lit (.int .i64 (fc - 1))) [] (by rw[hcw];exact plainElem_int Tryz.underlying3 HWv.out) ?_;intro w9 ho9 hg9))
     apply HT2.out
     exact HMk.out w9 v (n+1) _ (HSv8.out.setM hg9 (Jf.put HO.out HAt.out ho9)) HCt.out (by omega)
   have HT1:Hid _:=tail1
   clear tail1 hKB
   have HBl1:Hid (Below w.heap.size w V1):=HS1.out.bl
   by_cases ht:tk.length=0
   ·have ht':¬ ((0:Int)<(tk.length:Int)):=by omega
    clear ht
    go_wp2_with fail
    exact HT1.out _ _ _ _ _ _ _ _ _ _ _ _ _ _ _ _ _ _ _ _ _ _ _ _ _ _ _ _ _ V1 HS1 HC1
   have ht':(0:Int)<(tk.length:Int):=by omega
   have hmod:k % tk.length<tk.length:=Nat.mod_lt _ (by omega)
   have hmod':((k % tk.length:Nat):Int)<(tk.length:Int):=by omega
   have hmodE:(k:Int).tmod (tk.length:Int)=((k % tk.length:Nat):Int):=by rw[Int.ofNat_tmod]
   have hne:¬ ((tk.length:Int)=0):=by omega
   rcases (HRt.out.below HBl1.out).at_ with h0|⟨bT,oT,rfl,hcT⟩
   ·omega
   have d0:=hcT _ hmod
   clear hcT
   generalize tk[k % tk.length]=y at d0
   generalize k % tk.length=kt at *
   have hle:=HRt.out.le
   cases hB:((y.tmod 3)==0)
   ·clear ht
    go_wp2_with fail
    exact HT1.out _ _ _ _ _ _ _ _ _ _ _ _ _ _ _ _ _ _ _ _ _ _ _ _ _ _ _ _ _ V1 HS1 HC1
   ·clear ht
    obtain⟨W,t,cs,v,l,n,f,a,b,S,I,hts,hidle,hnh,hsol,hcnt,hn⟩:=HS1.out
    obtain⟨aS,aH,aF,aL,cS,cH,cF,cL,aT,cT,lt,e,-⟩:=S.hw V1 (fun _ _ _=>rfl)
    have ecs:=Value.agg.inj e
    subst ecs
    have l6:Hid (V1.rangeAt X9 0 [.slice aS W.m.slots.length cS,.slice aH W.m.heads.length cH,.slice aF W.m.free.length cF,.slice aL W.m.locks.length cL,.int .i64 W.m.now,.slice aT W.ts.length cT]):=Bz S.h9 rfl
    have HW1:Hid (Gh a V1 (.agg #[.slice aS W.m.slots.length cS,.slice aH W.m.heads.length cH,.slice aF W.m.free.length cF,.slice aL W.m.locks.length cL,.int .i64 W.m.now,.slice aT W.ts.length cT]) W):=S.hw V1 (fun _ _ _=>rfl)
    have HSv:Hid _:=S
    have HI:Hid (Bi W):=I
    have HR:Hid (W.ts=[t]/\t.busy=false/\W.m.heads.length=nb/\Sol l W.m/\(∀ y:Int,f y=(t.held.count y:Int))/\n<=k):=⟨hts,hidle,hnh,hsol,hcnt,hn⟩
    clear S I hts hidle hnh hsol hcnt hn e
    go_wp2_with (have h9:=l6.out;refine Ky rfl _ rfl rfl h9 ?_;clear h9 l6)
    refine(Zk HI.out (x:=⟨0,false,true,⟨0,0,0,0,0,0⟩⟩) HW1.out).mono ?_
    rintro e w2 ⟨v2,rfl,hv2,hb2⟩
    obtain⟨E,hE⟩:∃ E,E=doE W ⟨0,false,true,⟨0,0,0,0,0,0⟩⟩:=⟨_,rfl⟩
    rw[<- hE] at hv2 ⊢
    by_cases hE0:E=0
    rotate_left
    ·rw[if_neg hE0] at hv2
     obtain⟨aSq,aHq,aFq,aLq,cSq,cHq,cFq,cLq,aTq,cTq,_,rfl,-⟩:=hv2
     have h':(E==0)=false:=by simpa using hE0
     have HS2:Hid (∀ o:Obj,SoI w (w2.alloc o) base X5 X9 X11 X13 GM nb k):=fun o=>HS1.out.below (hb2.alloc hb2.size o)
     have HC2:Hid (∀ o:Obj,(w2.alloc o).heap[CB]?=some (.cells #[.int .i64 c.kind,.int .i64 c.a,.int .i64 c.b,.int .i64 c.time,.int .i64 c.bk,.int .i64 c.slot] 32 (0,0))):=fun o=>((hb2.alloc hb2.size o).block _ (lt_of_block HC1.out)).trans HC1.out
     clear hE hE0 hb2 HSv HW1 HR HI
     go_wp2_with fail
     exact HT1.out _ _ _ _ _ _ _ _ _ _ _ _ _ _ _ _ _ _ _ _ _ _ _ _ _ _ _ _ _ _ (HS2.out _) (HC2.out _)
    rw[if_pos hE0] at hv2
    obtain⟨Wn,hWn⟩:∃ Wn,Wn=doW W ⟨0,false,true,⟨0,0,0,0,0,0⟩⟩:=⟨_,rfl⟩
    rw[<- hWn] at hv2
    have hWm:Wn=⟨{ W.m with now:=W.m.now+1 },W.ts⟩:=by rw[hWn];rfl
    have HIn:Hid (Bi Wn):=by show Bi Wn;rw[hWn];exact Nw HI.out (hE.symm.trans hE0)
    obtain⟨aS3,aH3,aF3,aL3,cS3,cH3,cF3,cL3,aT3,cT3,lt3,rfl,-⟩:=id hv2
    obtain⟨on,hon⟩:∃ o:Obj,o=.cells #[.slice aS3 Wn.m.slots.length cS3,.slice aH3 Wn.m.heads.length cH3,.slice aF3 Wn.m.free.length cF3,.slice aL3 Wn.m.locks.length cL3,.int .i64 Wn.m.now,.slice aT3 Wn.ts.length cT3] 28:=⟨_,rfl⟩
    obtain⟨V3,hV3⟩:∃ V3,V3=w2.alloc on:=⟨_,rfl⟩
    have hb3:Below V1.heap.size V1 V3:=by rw[hV3];exact hb2.alloc hb2.size on
    have hN3:V3.heap[w2.heap.size]?=some on:=by rw[hV3];exact heap_alloc_new _ _
    have S3:=HSv.out.below hb3
    have t6:Hid (V3.there X9 0 6):=Dn S3.h9 (by simp)
    have hz2:=hb2.size
    have hz3:w2.heap.size<V3.heap.size:=lt_of_block hN3
    have HS4:Hid (SoI w (V3.setCells X9 0 [.slice aS3 Wn.m.slots.length cS3,.slice aH3 Wn.m.heads.length cH3,.slice aF3 Wn.m.free.length cF3,.slice aL3 Wn.m.locks.length cL3,.int .i64 Wn.m.now,.slice aT3 Wn.ts.length cT3]) base X5 X9 X11 X13 GM nb k):=by
     obtain⟨h1,h2,h3,h4,h5,h6⟩:=HR.out
     have hlt9:=lt_of_block HSv.out.h9
     have hlt11:=lt_of_block HSv.out.h11
     have hltG:=HSv.out.hm.lt
     refine⟨Wn,t,#[.slice aS3 Wn.m.slots.length cS3,.slice aH3 Wn.m.heads.length cH3,.slice aF3 Wn.m.free.length cF3,.slice aL3 Wn.m.locks.length cL3,.int .i64 Wn.m.now,.slice aT3 Wn.ts.length cT3],v,l,n,f,V1.heap.size,w2.heap.size,S3.setW (cs':=#[.slice aS3 Wn.m.slots.length cS3,.slice aH3 Wn.m.heads.length cH3,.slice aF3 Wn.m.free.length cF3,.slice aL3 Wn.m.locks.length cL3,.int .i64 Wn.m.now,.slice aT3 Wn.ts.length cT3]) rfl (hv2.wIn.same fun j _ hj=>(by rw[hV3];exact(Ad _ _).block j hj)) (by omega) ⟨by omega,by omega,by omega⟩ (fun g hg hx=>by have:=(HSv.out.hE.own.lt g hg).2;omega),HIn.out,by rw[hWm];exact h1,h2,by rw[hWm];exact h3,by rw[hWm];exact Zq h4 rfl,h5,h6⟩
    have HC4:Hid ((V3.setCells X9 0 [.slice aS3 Wn.m.slots.length cS3,.slice aH3 Wn.m.heads.length cH3,.slice aF3 Wn.m.free.length cF3,.slice aL3 Wn.m.locks.length cL3,.int .i64 Wn.m.now,.slice aT3 Wn.ts.length cT3]).heap[CB]?=some (.cells #[.int .i64 c.kind,.int .i64 c.a,.int .i64 c.b,.int .i64 c.time,.int .i64 c.bk,.int .i64 c.slot] 32 (0,0))):=(Ae (by have:=HSv.out.top;omega) _ _ _).trans ((hb3.block _ (lt_of_block HC1.out)).trans HC1.out)
    have l7:Hid (V3.rangeAt w2.heap.size 0 [.slice aS3 Wn.m.slots.length cS3,.slice aH3 Wn.m.heads.length cH3,.slice aF3 Wn.m.free.length cF3,.slice aL3 Wn.m.locks.length cL3,.int .i64 Wn.m.now,.slice aT3 Wn.ts.length cT3]):=by subst hon;exact Bz hN3 rfl
    subst hon
    have HV3:Hid (V3=w2.alloc (.cells #[.slice aS3 Wn.m.slots.length cS3,.slice aH3 Wn.m.heads.length cH3,.slice aF3 Wn.m.free.length cF3,.slice aL3 Wn.m.locks.length cL3,.int .i64 Wn.m.now,.slice aT3 Wn.ts.length cT3] 28)):=hV3
    subst hE0
    clear hE hv2 hb2 hb3 hN3 S3 hV3 hWn hWm HSv HW1 HR HI HIn hz2 hz3
    go_wp2_with (first|(rw[<- HV3.out];clear HV3)|(have h9:=l7.out;refine Ky rfl _ rfl rfl h9 ?_;clear h9 l7)|(have h9:=t6.out;refine Qd rfl _ _ rfl rfl rfl h9 (by kernel_rfl) ?_;clear h9 t6))
    exact HT1.out _ _ _ _ _ _ _ _ _ _ _ _ _ _ _ _ _ _ _ _ _ _ _ _ _ _ _ _ _ _ HS4 HC4
 have HT7:Hid _:=tail7
 clear tail7 hK7 HSv
 rcases hm' with ⟨hl,hml⟩|⟨hl,hml⟩
 ·subst hml
  go_wp2_with fail
  exact HT7.out _ _ _ _ _ _ _ _ _ _ _ _ _ _ _ _ _ _ _
 ·subst hml
  go_wp2_with fail
  exact HT7.out _ _ _ _ _ _ _ _ _ _ _ _ _ _ _ _ _ _ _
theorem b3l(many buckets:Int)(cl:List Cl)(aC:Option Addr)(cC:Nat)(tk:List Int)(aK:Option Addr)(cK:Nat)(w:World)(rC:Y3 w aC cC cl)(rT:Ea w aK cK tk) :
  Calls Tryz.prog 11 #[.int .i64 many,.int .i64 buckets,.slice aC cl.length cC,.slice aK tk.length cK] w fun e w'=>e=.returned (.bool true)/\Below w.heap.size w w':=by
 by_cases h:cl.length<=40
 ·exact a5h many buckets cl aC cC tk aK cK w rC rT cl.length (Nat.le_refl _) (.inl ⟨by omega,rfl⟩)
 ·exact a5h many buckets cl aC cC tk aK cK w rC rT 40 (by omega) (.inr ⟨by omega,rfl⟩)
end
end Go.Proofs.YthhgoenomehobaaGreat.mm
