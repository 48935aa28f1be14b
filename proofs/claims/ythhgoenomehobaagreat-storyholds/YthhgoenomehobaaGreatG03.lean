/- Parts. -/
import Derived.Test.YthhgoenomehobaaGreatG02
import Derived.Test.YthhgoenomehobaaGreatG01
import Derived.Deep.RegionWith
import Derived.Laws.AppendOwnNone
import Derived.Deep.RegionLaw
import Derived.Deep.QuietTactic
import Derived.BigQuiet
import Derived.BigRegion
import Derived.Carry
namespace Go.Proofs.YthhgoenomehobaaGreat.mm
set_option maxRecDepth 100000
set_option linter.unusedVariables false
open Go.Value renaming int → O, slice → Y
open Go.IntKind renaming i64 → J
section
open Go.ChangeShapes Go.WideShapes Go.ChangeAt Go.RowKit Go.Joins Go.Maps
theorem a1s{S:List Sl}{N:Nat}(hs:∀ s∈S,s.next<=N):∀ (k:Nat) (n:Int),n<=N->∀ a∈Gz S k n,0<=a/\a<N
 | 0,_,_,_,ha=>by cases ha
 | k+1,n,hn,a,ha=>by
  simp only[Gz] at ha
  split at ha
  ·rename_i h0
   rcases List.mem_cons.1 ha with rfl|ha
   ·omega
   ·refine a1s hs k (J9 S n) ?_ a ha
    unfold J9
    by_cases hx:(n - 1).toNat<S.length
    ·rw[getD_lt S _ hx];exact hs _ (List.getElem_mem hx)
    ·rw[List.getD_eq_getElem?_getD,List.getElem?_eq_none (by omega)];show (0:Int)<=N;omega
  ·cases ha
theorem Ok.chIn{M:Mm}(h:Ok M){b:Nat}(hb:b<M.heads.length):∀ a∈chL M b,0<=a/\a<M.slots.length :=
 a1s (fun s hs=>((Ah _ _ _).1 (Ej (h.slot s hs)).2.2.2).2) _ _ ((Ah _ _ _).1 (h.O5 hb).2).2
theorem cell_map{w:World}{g o:Nat}{es:Array MapEntry}{clock:Nat}(h:w.heap[g]?=some (.map es clock)):w.cell? ⟨g,o,none⟩=none:=by
 unfold World.cell?
 rw[h]
theorem IRow.turn{w w':World}{ao:Option Addr}{cap g:Nat}{l:List Int}{es:Array MapEntry}{clock:Nat}(r:IRow w ao cap l)(hg:w.heap[g]?=some (.map es clock))(h:∀ k,k<w.heap.size->k≠g->w'.heap[k]?=w.heap[k]?):IRow w' ao cap l:=by
 refine⟨r.le,r.max,r.nil,?_⟩
 rcases r.at_ with h0|⟨b,o,e,hc⟩
 ·exact .inl h0
 ·refine .inr ⟨b,o,e,fun i hi=>?_⟩
  have hne:b≠g:=by
   rintro rfl
   have:=hc i hi
   rw[cell_map hg] at this
   cases this
  rw[World.cell?_of_block (a:=⟨b,o+i,none⟩) (h b (cell_lt (hc i hi)) hne)]
  exact hc i hi
theorem MapAt.blk{M:Mm}{w:World}{g:Nat}{l:List Int}(h:MapAt M w g l):∃ es clock,w.heap[g]?=some (.map es clock):=by
 obtain⟨n,hn,D,⟨es,clock,hg,F,hs,hD⟩,hat⟩:=h
 exact⟨es,clock,hg⟩
theorem Nv(M:Mm):∀ b:Nat,(Bq M b).length<=b*M.slots.length
 | 0=>by simp[Bq]
 | b+1=>by
  rw[Hu,List.length_append,Nat.succ_mul]
  have:=Nv M b
  have:(chL M b).length<=M.slots.length:=Ov _ _ _
  omega
def MapIs(M:Mm)(Z:Int)(lo:Nat)(w:World)(v:Value):Prop:=(Z≠0->v=.map none)/\(Z=0->∃ g,v=.map (some g)/\lo<=g/\MapAt M w g (allC M))
set_option maxHeartbeats 6400000 in
theorem a2y(M:Mm)(aS aH aF aL:Option Addr)(cS cH cF cL:Nat)(w:World)(A:At w aS aH aF aL cS cH cF cL M) :
  Calls Tryz.prog 76 #[.agg #[.slice aS M.slots.length cS,.slice aH M.heads.length cH,.slice aF M.free.length cF,.slice aL M.locks.length cL,.int .i64 M.now]] w fun e w'=>∃ v,e=.returned (.tuple #[v,.int .i64 (chkC M)])/\MapIs M (chkC M) w.heap.size w' v/\Below w.heap.size w w':=by
 obtain⟨Z,hZ⟩:∃ Z,Z=chkC M:=⟨_,rfl⟩
 rw[<- hZ]
 have HZ:Hid (Z=chkC M):=hZ
 clear hZ
 obtain⟨o1,ho1⟩:∃ o:Obj,o=.cells #[.slice aS M.slots.length cS,.slice aH M.heads.length cH,.slice aF M.free.length cF,.slice aL M.locks.length cL,.int .i64 M.now] 25:=⟨_,rfl⟩
 have b0:Below w.heap.size w (w.alloc o1):=Aa w o1
 have HB0:Hid ((w.alloc o1).heap[w.heap.size]?=some o1):=heap_alloc_new _ _
 have HA:Hid (At w aS aH aF aL cS cH cF cL M):=A
 have HA0:Hid _:=A.below b0
 clear A
 go_enter Tryz.func76,Tryz.ntmps76
 go_wp2_with fail
 rw[<- ho1]
 generalize w.alloc o1=W0 at *
 subst ho1
 refine(check_any M aS aH aF aL cS cH cF cL W0 HA0.out).mono ?_
 rintro e w1 ⟨rfl,hb1⟩
 have b1:=b0.trans (hb1.mono b0.size)
 have HB1:Hid _:=(hb1.block w.heap.size (lt_of_block HB0.out)).trans HB0.out
 clear hb1 b0 HB0 HA0
 by_cases hE:chk M=0
 rotate_left
 ·have h':(chk M != 0)=true:=by simpa using hE
  have HV:Hid (Z=chk M):=HZ.out.trans (by unfold chkC;rw[if_pos hE])
  have HN:Hid (chk M≠0):=hE
  clear HB1
  generalize chk M=E at *
  go_wp2
  go_ret2
  exact⟨_,by rw[HV.out];rfl,⟨fun _=>rfl,fun h=>absurd (HV.out ▸ h) HN.out⟩,b1⟩
 have hok:=(Jh M).1 hE
 have n0:=hok.ns
 have n1:=hok.nh
 have HC:Hid (Z=chkB M M.heads.length 0 []):=HZ.out.trans (by unfold chkC;rw[if_neg (by simpa using hE)])
 rw[hE]
 clear hE HZ
 obtain⟨q0,q1,q2,q3,q4,f0,f1,f2,f3,f4,qs⟩:=boxf HB1.out
 clear f0 f1 f2 f3 f4
 have HM1:Hid (MapAt M (w1.alloc (.map #[] 0)) w1.heap.size []):=MapAt.made M w1
 have b2:=b1.alloc b1.size (.map #[] 0)
 have HB2:Hid ((w1.alloc (.map #[] 0)).heap[w.heap.size]?=_):=(Below.heap_alloc _ _ _ qs).trans HB1.out
 have hmm:=@run_makeMap Tryz.prog
 go_wp2
 clear q0 q1 q2 q3 q4 hmm
 go_loopw [21] (fun i wr=>∃ b:Nat,b<=M.heads.length/\i=.int .i64 b/\Hid (MapAt M wr w1.heap.size (Bq M b))/\Below w.heap.size w wr/\Hid (wr.heap[w.heap.size]?=some (.cells #[.slice aS M.slots.length cS,.slice aH M.heads.length cH,.slice aF M.free.length cF,.slice aL M.locks.length cL,.int .i64 M.now] 25 (0,0)))/\Hid (Z=chkB M (M.heads.length - b) b (Bq M b)))
  (fun i _=>M.heads.length - (intOf i).toNat)
 case atStart=>exact⟨0,Nat.zero_le _,rfl,HM1,b2,HB2,HC⟩
 case round =>
  obtain⟨b,hb,rfl,HM,hbw,HB,HE⟩:=hrel
  clear HM1 HB2 b2 HC HB1 b1
  obtain⟨q0,q1,q2,q3,q4,f0,f1,f2,f3,f4,qs'⟩:=boxf HB.out
  clear f0 f1 f2 f3 f4
  have gl:=MapAt.lt HM.out
  by_cases hlt:b<M.heads.length
  ·have HAr:Hid _:=HA.out.below hbw
   go_wp2_with fail
   refine(Zh M aS aH aF aL cS cH cF cL b wr HAr.out hok hlt).mono ?_
   rintro e w2 ⟨ao,cap,rfl,hrow,hb2⟩
   have hbx:=hbw.trans (hb2.mono hbw.size)
   have HM2:Hid (MapAt M w2 w1.heap.size (Bq M b)):=MapAt.kept HM.out (hb2.block _ gl)
   have HB2:Hid (w2.heap[w.heap.size]?=_):=(hb2.block w.heap.size qs').trans HB.out
   have HS:Hid _:=a4k M b hlt
   clear HM HB HAr hbw hb2 q0 q1 q2 q3 q4
   cases hc:chOk M b
   ·have HV:Hid (Z=4):=HE.out.trans (HS.out.trans (by rw[hc];rfl))
    have es:Oq M b=4:=by unfold Oq;rw[hc];rfl
    have el:Nb M b=[]:=by unfold Nb;rw[hc];rfl
    rw[es,el]
    clear hrow HS HE
    go_wp2
    go_ret2
    exact⟨_,by rw[HV.out];rfl,⟨fun _=>rfl,fun h=>by rw[HV.out] at h;cases h⟩,hbx⟩
   ·have es:Oq M b=0:=by unfold Oq;rw[hc];rfl
    have el:Nb M b=chL M b:=by unfold Nb;rw[hc];rfl
    rw[es,el]
    rw[el] at hrow
    have HIn:Hid _:=hok.chIn hlt
    have HRow:Hid (IRow w2 ao cap (chL M b)):=hrow
    have hlen:(chL M b).length<=12:=Nat.le_trans (Ov _ _ _) n0
    have HD:Hid (Z=if Jv M b (Bq M b) (chL M b)≠0 then Jv M b (Bq M b) (chL M b) else chkB M (M.heads.length - (b+1)) (b+1) (Bq M (b+1))):=HE.out.trans (HS.out.trans (by rw[hc];rfl))
    have HSu:Hid (Bq M (b+1)=Bq M b++chL M b):=Hu M b
    clear hrow HS HE es el hc
    generalize chL M b=l at *
    go_wp2
    go_loopw [35] (fun i wr=>∃ k:Nat,k<=l.length/\i=.int .i64 k/\Hid (MapAt M wr w1.heap.size (Bq M b++l.take k))/\Hid (IRow wr ao cap l)/\Below w.heap.size w wr/\Hid (wr.heap[w.heap.size]?=some (.cells #[.slice aS M.slots.length cS,.slice aH M.heads.length cH,.slice aF M.free.length cF,.slice aL M.locks.length cL,.int .i64 M.now] 25 (0,0)))/\Hid (Jv M b (Bq M b) l=Jv M b (Bq M b++l.take k) (l.drop k)))
     (fun i _=>l.length - (intOf i).toNat)
    case atStart=>exact⟨0,Nat.zero_le _,rfl,by rw[List.take_zero,List.append_nil];exact HM2,HRow,hbx,HB2,by rw[List.take_zero,List.append_nil,List.drop_zero];exact rfl⟩
    case round =>
     obtain⟨k,hk,rfl,HM3,HR3,hb3,HB3,HE3⟩:=hrel
     clear HM2 HRow hbx HB2
     obtain⟨q0,q1,q2,q3,q4,f0,f1,f2,f3,f4,qs3⟩:=boxf HB3.out
     clear f0 f1 f2 f3 f4
     by_cases hlt3:k<l.length
     ·rcases HR3.out.at_ with h0|⟨bl,ol,rfl,hcl⟩
      ·omega
      have d0:=hcl k hlt3
      clear hcl
      have hin:=HIn.out l[k] (List.getElem_mem hlt3)
      obtain⟨j,hj⟩:∃ j:Nat,l[k]=j:=⟨(l[k]).toNat,by omega⟩
      have HX:Hid (l[k]=j):=hj
      rw[hj] at d0 hin
      clear hj
      have hjs:j<M.slots.length:=by omega
      have HA3:Hid _:=HA.out.below hb3
      have HSt:Hid _:=a3c M b (Bq M b) l k hlt3
      go_wp2_with fail
      refine(Vw M aS aH aF aL cS cH cF cL b j w1.heap.size (Bq M b++l.take k) wr HA3.out hok hlt hjs HM3.out).mono ?_
      rintro e w4 ⟨rfl,hb4⟩
      have hbx4:=hb3.trans (hb4.mono hb3.size)
      have HM4:Hid (MapAt M w4 w1.heap.size (Bq M b++l.take k)):=MapAt.kept HM3.out (hb4.block _ (MapAt.lt HM3.out))
      have HB4:Hid (w4.heap[w.heap.size]?=_):=(hb4.block w.heap.size qs3).trans HB3.out
      have HR4:Hid _:=HR3.out.below hb4
      have HA4:Hid _:=HA.out.below hbx4
      clear HM3 HB3 HR3 HA3 hb4 hb3 q0 q1 q2 q3 q4 d0
      by_cases hsc:Jw M b (Bq M b++l.take k) j=0
      ·rw[hsc]
       have HV:Hid (Jv M b (Bq M b) l=Jv M b (Bq M b++l.take (k+1)) (l.drop (k+1))):=HE3.out.trans (HSt.out.trans (by rw[HX.out,if_neg (by simpa using hsc)]))
       have hz:=(Q8 M b _ _).1 hsc
       have hnk:hasK M (Bq M b++l.take k) (keyAt M j)=false:=by
        cases hh:hasK M (Bq M b++l.take k) (keyAt M j)
        ·rfl
        ·exact absurd ((G7 _ _ _).1 hh) hz.2
       have HNK:Hid _:=hnk
       clear hz hnk hsc HSt HE3
       obtain⟨r0,r1,r2,r3,r4,g0,g1,g2,g3,g4,rs⟩:=boxf HB4.out
       clear g0 g1 g2 g3 g4
       have hgood:=(Ej (hok.slot _ (List.getElem_mem hjs))).2.2.1
       rcases HA4.out.s.at_ with h0|⟨bs,os,rfl,hcs⟩
       ·omega
       obtain⟨c0,c1,c2,c3,c4,c5⟩:=hcs j hjs
       clear hcs c0 c3 c4 c5
       have hsl:A7 M j=M.slots[j]:=Jc hjs
       have hkk:keyAt M j=(M.slots[j].a,M.slots[j].b):=by unfold keyAt;rw[hsl]
       have HKK:Hid (keyAt M j=(M.slots[j].a,M.slots[j].b)):=hkk
       have HSL:Hid (A7 M j=M.slots[j]):=hsl
       clear hkk hsl
       obtain⟨nn,hnn,D,ho,hat⟩:=HM4.out
       have HO:Hid (w4.ownsMap Tryz.prog 30 (plainElem Tryz.prog 3) w1.heap.size nn D):=ho
       have HAT:Hid _:=hat
       obtain⟨es,clock,hgb⟩:=MapAt.blk HM4.out
       have HGB:Hid _:=hgb
       have hnn2:nn<140737488355328:=by
        have h1:=Nv M b
        have h2:b*M.slots.length<=4*12:=Nat.mul_le_mul (by omega) n0
        have h3:=hnn
        simp only[List.length_append,List.length_take] at h3
        omega
       clear ho hat hgb
       go_wp2_with (at_mapUpdate;(refine wpList_mapUpdate_own (H:=Unit) _ rfl _ _ _ 121 rfl 30 3 law37 a1p (plainElem Tryz.prog 3) w1.heap.size nn D rfl HO.out (by unfold maxLen;omega) _ _ (kl (M.slots[j].a,M.slots[j].b)) rfl rfl (Ri (Kv hgood).1 (Kv hgood).2) (.lit (.int .i64 (j:Int))) [] (plainElem_int Tryz.underlying3 (wf64 (by omega) (by omega))) ?_;intro w5 ho5 hg5))
       have HM5:Hid (MapAt M w5 w1.heap.size (Bq M b++l.take (k+1))):=by
        have:=MapAt.put (a:=(j:Int)) hnn HO.out.isMap HAT.out (by rw[HSL.out];exact hgood) HNK.out (by rw[HKK.out];exact ho5)
        rw[List.take_succ_eq_append_getElem hlt3,<- List.append_assoc,HX.out]
        exact this
       have HB5:Hid (w5.heap[w.heap.size]?=some (.cells #[.slice (some ⟨bs,os,none⟩) M.slots.length cS,.slice aH M.heads.length cH,.slice aF M.free.length cF,.slice aL M.locks.length cL,.int .i64 M.now] 25 (0,0))):=(hg5.block w.heap.size rs (by simp;omega)).trans HB4.out
       have HR5:Hid (IRow w5 (some ⟨bl,ol,none⟩) cap l):=HR4.out.turn HGB.out (fun k h1 h2=>hg5.block k h1 (by simpa using h2))
       have hb5:Below w.heap.size w w5:=hbx4.grown hg5 hbx4.size (fun k h=>by cases h;omega)
       go_roundw
       case rel=>exact⟨k+1,by omega,by go_num,HM5,HR5,hb5,HB5,HV⟩
       case measure=>simp[intOf];omega
      ·have h':(Jw M b (Bq M b++l.take k) j != 0)=true:=by simpa using hsc
       have HV:Hid (Z=Jw M b (Bq M b++l.take k) j):=by
        have h1:=HE3.out.trans (HSt.out.trans (by rw[HX.out,if_pos hsc]))
        have:=HD.out
        rw[h1,if_pos hsc] at this
        exact this
       have HN:Hid (Jw M b (Bq M b++l.take k) j≠0):=hsc
       clear HSt HE3 HD hsc HB4 HR4 HA4 HM4
       generalize Jw M b (Bq M b++l.take k) j=E at *
       go_wp2
       go_ret2
       exact⟨_,by rw[HV.out];rfl,⟨fun _=>rfl,fun h=>absurd (HV.out ▸ h) HN.out⟩,hbx4⟩
     ·have hk':k=l.length:=by omega
      have HV:Hid (Z=chkB M (M.heads.length - (b+1)) (b+1) (Bq M (b+1))):=by
       have h1:=HE3.out.trans (a6y M b (Bq M b) l k (by omega))
       have:=HD.out
       rw[h1,if_neg (by simp)] at this
       exact this
      have HM6:Hid (MapAt M wr w1.heap.size (Bq M (b+1))):=by
       have:=HM3.out
       rw[hk',List.take_length,<- HSu.out] at this
       exact this
      go_wp2
      go_roundw
      case rel=>exact⟨b+1,by omega,by go_num,HM6,hb3,HB3,HV⟩
      case measure=>simp[intOf];omega
  ·have hbe:b=M.heads.length:=by omega
   have HV:Hid (Z=0):=HE.out.trans (chkB_end M b (by omega) _)
   have HMf:Hid (MapAt M wr w1.heap.size (allC M)):=by
    have:=HM.out
    rw[hbe] at this
    exact this
   go_wp2
   go_ret2
   exact⟨_,by rw[HV.out];rfl,⟨fun h=>absurd HV.out h,fun _=>⟨w1.heap.size,rfl,by omega,HMf.out⟩⟩,hbw⟩
end
section
open Go.ChangeShapes Go.WideShapes Go.ChangeAt Go.RowKit Go.Joins Go.Maps
set_option maxHeartbeats 800000 in
theorem Uf(M:Mm)(aS aH aF aL:Option Addr)(cS cH cF cL:Nat)(w:World)(A:At w aS aH aF aL cS cH cF cL M) :
  Calls Tryz.prog 29 #[.agg #[Y aS M.slots.length cS,Y aH M.heads.length cH,Y aF M.free.length cF,Y aL M.locks.length cL,O J M.now]] w fun e w'=>e=.returned (O J (chkC M))/\Below w.heap.size w w':=by
 have b0:Below w.heap.size w (w.alloc (.cells #[Y aS M.slots.length cS,Y aH M.heads.length cH,Y aF M.free.length cF,Y aL M.locks.length cL,O J M.now] 25)):=Aa w _
 have HA0:Hid _:=A.below b0
 clear A
 go_enter Tryz.func29,Tryz.ntmps29
 go_wp2_with fail
 refine(a2y M aS aH aF aL cS cH cF cL _ HA0.out).mono ?_
 rintro e w1 ⟨v,rfl,-,hb1⟩
 have b1:=b0.trans (hb1.mono b0.size)
 clear hb1 b0 HA0
 go_wp2
 go_ret
 exact⟨rfl,b1⟩
end
section
open Go.ChangeShapes Go.WideShapes Go.ChangeAt Go.RowKit Go.Joins Go.Maps
structure Fl where
 a:Int
 b:Int
 slot:Int
 unt:Int
def Fl.enc(f:Fl):List Value:=[O J f.a,O J f.b,O J f.slot,O J f.unt]
def encF(l:List Fl):List Value:=l.flatMap Fl.enc
theorem Xm(s:Fl)(l:List Fl):encF (s :: l)=s.enc++encF l:=by simp[encF]
theorem encF_len(l:List Fl):(encF l).length=l.length*4:=by
 induction l with
 | nil=>rfl
 | cons s l ih=>rw[Xm,List.length_append,ih];simp[Fl.enc];omega
theorem a0d(l:List Fl)(i q:Nat)(h:i<l.length)(hq:q<4):(encF l)[i*4+q]?=(l[i].enc)[q]?:=by
 induction l generalizing i with
 | nil=>simp at h
 | cons s l ih =>
  rw[Xm]
  match i with
  | 0 =>
   rw[List.getElem?_append_left (by simp[Fl.enc];omega)]
   simp
  | i+1 =>
   rw[List.getElem?_append_right (by simp[Fl.enc];omega)]
   have hl:s.enc.length=4:=rfl
   rw[hl,show (i+1)*4+q - 4=i*4+q by omega,ih i (by simpa using h)]
   simp
structure FRow(w:World)(ao:Option Addr)(cap:Nat)(l:List Fl):Prop where
 le:l.length<=cap
 max:l.length*32<=140737488351232
 nil:ao=none->cap=0
 at_:l.length=0\/∃ b o,ao=some ⟨b,o,none⟩/\∀ i (h:i<l.length),
  w.cell? ⟨b,o+i*4,none⟩=some (O J l[i].a)/\w.cell? ⟨b,o+i*4+1,none⟩=some (O J l[i].b)/\w.cell? ⟨b,o+i*4+2,none⟩=some (O J l[i].slot)/\w.cell? ⟨b,o+i*4+3,none⟩=some (O J l[i].unt)
theorem FRow.below{w w':World}{ao:Option Addr}{cap:Nat}{l:List Fl}(r:FRow w ao cap l)(hb:Below w.heap.size w w'):FRow w' ao cap l:=by
 refine⟨r.le,r.max,r.nil,?_⟩
 rcases r.at_ with h|⟨b,o,h,hc⟩
 ·exact .inl h
 ·refine .inr ⟨b,o,h,fun i hi=>?_⟩
  obtain⟨c0,c1,c2,c3⟩:=hc i hi
  have lt:=cell_lt c0
  obtain⟨q,_⟩:=Ez hb
  exact⟨(q _ _ lt).trans c0,(q _ _ lt).trans c1,(q _ _ lt).trans c2,(q _ _ lt).trans c3⟩
theorem FRow.Oe{w:World}{b cap:Nat}{S:List Fl}(hl:S.length<=cap)(hm:S.length*32<=140737488351232)(hc:∀ j,j<S.length*4->w.cell? ⟨b,j,none⟩=(encF S)[j]?):FRow w (some ⟨b,0,none⟩) cap S:=by
 refine⟨hl,hm,(fun h=>by cases h),.inr ⟨b,0,rfl,fun i hi=>?_⟩⟩
 have e:∀ q,q<4->w.cell? ⟨b,0+i*4+q,none⟩=(S[i].enc)[q]?:=fun q hq=>by
  rw[Nat.zero_add,hc _ (by omega),a0d S i q hi hq]
 exact⟨e 0 (by omega),e 1 (by omega),e 2 (by omega),e 3 (by omega)⟩
theorem FRow.Ky{w:World}{base n:Nat}{v:Value}{S:List Fl}(h:w.ownsRow base 61 4 v n (encF S))(hm:S.length*32<=140737488351232):∃ ao cap,v=Y ao S.length cap/\FRow w ao cap S:=by
 have hl:=h.1
 rw[encF_len] at hl
 have hn:S.length=n:=by omega
 subst hn
 rcases h.2 with ⟨rfl,h0⟩|⟨g,cap,cur,rfl,hg,hb,hc,-,hs,ht⟩
 ·exact⟨none,0,by rw[h0],by omega,hm,fun _=>rfl,.inl h0⟩
 ·exact⟨_,_,rfl,.Oe hc hm fun j hj=>h.cellAt j hj⟩
theorem iF:(Tryz.prog.info? 61).map (fun i=>(i.zero,i.size,i.bytes))=some (some (.agg #[O J 0,O J 0,O J 0,O J 0]),4,32):=by kernel_rfl
def D8(M:Mm)(x:Int):Fl:=⟨(A7 M x).a,(A7 M x).b,x,(A7 M x).unt⟩
def Fh(M:Mm):List Fl:=if chkC M=0 then (allC M).map (D8 M) else []
theorem four_new(w:World)(f:Fl):∀ (j:Nat) (u:Value),(f.enc)[j]?=some u->(w.alloc (.cells #[O J f.a,O J f.b,O J f.slot,O J f.unt] 61)).cell? ((⟨w.heap.size,0,none⟩:Addr).add j)=some u:=by
 intro j u hu
 rw[Addr.add_lit]
 match j,hu with
 | 0,hu=>simp[Fl.enc] at hu;subst hu;simp
 | 1,hu=>simp[Fl.enc] at hu;subst hu;simp
 | 2,hu=>simp[Fl.enc] at hu;subst hu;simp
 | 3,hu=>simp[Fl.enc] at hu;subst hu;simp
 | j+4,hu=>simp[Fl.enc] at hu
set_option maxHeartbeats 1600000 in
theorem app72(M:Mm)(aS aH aF aL:Option Addr)(cS cH cF cL:Nat)(w0 W:World)(X B Yq:Nat)(ob:Array Value)(l:List Int)(j:Nat)(L:Lst w0 B Yq 56 61 4 ob W (l.map (D8 M)).length (encF (l.map (D8 M))))(hl:l.length<=100)
  (hX:W.heap[X]?=some (.cells #[Y aS M.slots.length cS,Y aH M.heads.length cH,Y aF M.free.length cF,Y aL M.locks.length cL,O J M.now] 25 (0,0))) (A:At W aS aH aF aL cS cH cF cL M) (hj:j<M.slots.length) (hns:M.slots.length<=12) :
  Calls Tryz.prog 100 #[O J j,.pointer (some ⟨X,0,none⟩),.pointer (some ⟨B,0,none⟩)] W fun e W'=>e=.returned (.tuple #[])/\Lst w0 B Yq 56 61 4 ob W' ((l ++ [(j:Int)]).map (D8 M)).length (encF ((l ++ [(j:Int)]).map (D8 M))):=by
 obtain⟨i0,hi,hz0,hz1,hz2⟩:=info_parts iF
 obtain⟨⟨v,hB,ho⟩,hY,hb,hne⟩:=L
 have hll:(l.map (D8 M)).length=l.length:=by simp
 rw[hll] at ho
 obtain⟨ao,cap,rfl⟩:=Dl ho
 obtain⟨c0,f0,lB⟩:=Af hB
 obtain⟨q0,q1,q2,q3,q4,-,-,-,-,-,qs⟩:=boxf hX
 rcases A.s.at_ with h0|⟨bs,os,rfl,hcs⟩
 ·omega
 obtain⟨s0,s1,s2,s3,s4,s5⟩:=hcs j hj
 have ls:=cell_lt s0
 have hsl:A7 M j=M.slots[j]:=Jc hj
 generalize hM:M.slots[j]=s at s0 s1 s2 s3 s4 s5 hsl
 obtain⟨r,ka,kb,u,i,nx⟩:=s
 dsimp only at s0 s1 s2 s3 s4 s5
 have HFl:Hid (D8 M j=⟨ka,kb,j,u⟩):=by unfold D8;rw[hsl];rfl
 clear hM hsl hcs A hX
 have HB:Hid _:=hB
 have HY:Hid _:=hY
 have lY:=lt_of_block hY
 clear hB hY
 have kB:(W.alloc (.cells #[O J r,O J ka,O J kb,O J u,.bool i,O J nx] 64)).heap[B]?=_:=(Below.heap_alloc W (.cells #[O J r,O J ka,O J kb,O J u,.bool i,O J nx] 64) B lB).trans HB.out
 have kY:(W.alloc (.cells #[O J r,O J ka,O J kb,O J u,.bool i,O J nx] 64)).heap[Yq]?=_:=(Below.heap_alloc W (.cells #[O J r,O J ka,O J kb,O J u,.bool i,O J nx] 64) Yq lY).trans HY.out
 have KB:Hid _:=kB
 have KY:Hid _:=kY
 clear kB kY
 have hb':=hb.alloc (Nat.le_of_lt lB) (.cells #[O J r,O J ka,O J kb,O J u,.bool i,O J nx] 64)
 have HN:Hid _:=four_new (W.alloc (.cells #[O J r,O J ka,O J kb,O J u,.bool i,O J nx] 64)) ⟨ka,kb,j,u⟩
 rw[show (W.alloc (.cells #[O J r,O J ka,O J kb,O J u,.bool i,O J nx] 64)).heap.size=W.heap.size+1 by simp] at HN
 go_enter Tryz.func100,Tryz.ntmps100
 go_wp2_with (at_builtin;refine wpList_append_own_at _ rfl (.tmp 10) (.tmp 17) 56 rfl (B+1) 61 i0 (.agg #[O J 0,O J 0,O J 0,O J 0]) 4 32 Tryz.underlying56 hi hz0 hz1 hz2 rfl (by first|decide|exact Ex.ne _ _ (by decide)) _ _ _ rfl ((ho.alloc _).alloc _) ⟨W.heap.size+1,0,none⟩ 1 1 (Fl.enc ⟨ka,kb,j,u⟩) rfl rfl HN.out (by intro x hx;simp only[Fl.enc,List.mem_cons,List.not_mem_nil,or_false] at hx;rcases hx with rfl|rfl|rfl|rfl <;> rfl) (by unfold maxLen;omega) (by omega) (by simp;omega) ?_;intro v2 w2 ho2 hg2 _ hloc2;obtain⟨g2,cap2,rfl⟩:=ownsRow_form ho2 (by omega);have HL:Hid _:=Lst.step KB.out (ho.alloc _) KY.out hb' hne (by first|decide|exact Ex.ne _ _ (by decide)) (by first|decide|exact Ex.ne _ _ (by decide)) hg2 ho2;obtain⟨d0,e0,lB2⟩:=Af (Dy KB.out hg2 (own_ne (ho.alloc _) KB.out (by first|decide|exact Ex.ne _ _ (by decide))));clear c0 f0 ho2 hg2 hloc2)
 go_end0
 refine⟨rfl,?_⟩
 have:=HL.out
 rw[show encF (l.map (D8 M) ++ [D8 M (j:Int)])=encF (l.map (D8 M))++Fl.enc ⟨ka,kb,j,u⟩ by simp[encF,HFl.out]]
 exact this
theorem fn72:∀ args W,(callFunc 100 args).run Tryz.prog W=.ok (.enter 100 args) W:=fun _ _=>by kernel_rfl
end
section
def run(nf:Mm->Fr->Fr)(nm:Mm->Fr->Mm):Nat->Mm->Fr->Mm × Fr × Bool
 | 0,M,f=>(M,f,false)
 | k+1,M,f=>if (nf M f).done then (nm M f,nf M f,true) else run nf nm k (nm M f) (nf M f)
end
section
open Go.ChangeShapes Go.WideShapes Go.ChangeAt Go.RowKit Go.Joins Go.Maps
variable {Xb:Ex}
def linkAt(M:Mm)(a:Nat)(b:Nat):Mm:={ M with slots:=M.slots.set a { A7 M a with next:=Ar M b,inn:=true },heads:=M.heads.set b ((a:Int)+1) }
theorem a4t(S:List Sl)(j:Nat)(h:j<S.length)(nx:Int)(i:Bool):((encS S).set (j*6+5) (O J nx)).set (j*6+4) (.bool i)=encS (S.set j { S[j] with next:=nx,inn:=i }):=by
 induction S generalizing j with
 | nil=>simp at h
 | cons x S ih =>
  match j with
  | 0=>simp[E5,Sl.enc]
  | j+1 =>
   have:=ih j (by simpa using h)
   rw[List.set_cons_succ,E5,E5,List.getElem_cons_succ,<- this]
   simp only[Sl.enc,List.cons_append,List.nil_append,show (j+1)*6+5=j*6+5+6 by omega,show (j+1)*6+4=j*6+4+6 by omega,List.set_cons_succ]
theorem Xo(S:List Sl)(j:Nat)(h:j<S.length)(nx:Int):(encS S).set (j*6+5) (O J nx)=encS (S.set j { S[j] with next:=nx }):=by
 induction S generalizing j with
 | nil=>simp at h
 | cons x S ih =>
  match j with
  | 0=>simp[E5,Sl.enc]
  | j+1 =>
   have:=ih j (by simpa using h)
   rw[List.set_cons_succ,E5,E5,List.getElem_cons_succ,<- this]
   simp only[Sl.enc,List.cons_append,List.nil_append,show (j+1)*6+5=j*6+5+6 by omega,List.set_cons_succ]
set_option maxHeartbeats 1600000 in
theorem link_in(w:World)(B gS gH nS nH j b cS cH:Nat)(fv lv nv:Value)(x nx:Int)(i:Bool)
  (hB:w.heap[B]?=some (.cells (List.toArray (Y (some ⟨gS,0,none⟩) nS cS :: Y (some ⟨gH,0,none⟩) nH cH :: fv :: lv :: nv :: Xb.rs)) Xb.rt (0,0))) (hj:j<nS) (hb:b<nH) (hn:nS<=12) (hh:nH<=4) (d1:B≠gS) (d2:gS≠gH) (d3:B≠gH) (l1:gS<w.heap.size) (l2:gH<w.heap.size)
  (c4:w.cell? ⟨gS,j*6+4,none⟩=some (.bool i)) (c5:w.cell? ⟨gS,j*6+5,none⟩=some (O J nx)) (fz:∀ q,w.frozen? ⟨gS,q,none⟩=false) (ch:w.cell? ⟨gH,b,none⟩=some (O J x)) (fh:w.frozen? ⟨gH,b,none⟩=false) :
  Calls Tryz.prog 206 #[.pointer (some ⟨B,0,none⟩),O J b,O J j] w fun e w'=>e=.returned (.tuple #[]) /\
   w'=(((w.setCell ⟨gS,j*6+5,none⟩ (O J x)).setCell ⟨gS,j*6+4,none⟩ (.bool true)).setCell ⟨gH,b,none⟩ (O J ((j:Int)+1))).drew:=by
 obtain⟨q0,q1,q2,q3,q4,-,-,-,-,-,qs⟩:=boxf hB
 clear hB
 go_enter Tryz.func206,Tryz.ntmps206
 go_wp2
 go_region_with (go_at_call 214;refine(a3s _ _ (by omega) (by omega)).mono ?_;rintro e w1 ⟨rfl,rfl⟩)
 all_goals go_wp2
 all_goals go_end0
 all_goals exact⟨rfl,rfl⟩
end
section
open Go.ChangeShapes Go.WideShapes Go.ChangeAt Go.RowKit Go.Joins
variable {Xb:Ex}
def Foot(B:Nat)(aS aH aF aL:Option Addr)(k:Nat):Prop :=
 k=B\/(∃ ad,aS=some ad/\ad.block=k)\/(∃ ad,aH=some ad/\ad.block=k)\/(∃ ad,aF=some ad/\ad.block=k)\/(∃ ad,aL=some ad/\ad.block=k)
structure Fine(w w':World)(Z:Nat->Prop):Prop where
 os:w'.os=w.os
 tape:w'.tape=w.tape
 output:w'.output=w.output
 size:w.heap.size<=w'.heap.size
 block:∀ k,k<w.heap.size->¬ Z k->w'.heap[k]?=w.heap[k]?
def Up(w:World)(Z:Nat->Prop)(k:Nat):Prop:=Z k\/w.heap.size<=k
theorem Fine.refl(w:World)(Z:Nat->Prop):Fine w w Z:=⟨rfl,rfl,rfl,Nat.le_refl _,fun _ _ _=>rfl⟩
theorem Fine.of_below{w w':World}(Z:Nat->Prop)(hb:Below w.heap.size w w'):Fine w w' Z:=⟨hb.os,hb.tape,hb.output,hb.size,fun k h _=>hb.block k h⟩
theorem Fine.trans{w w1 w2:World}{Z Z':Nat->Prop}(h:Fine w w1 Z)(h':Fine w1 w2 Z')(hz:∀ k,k<w.heap.size->Z' k->Z k):Fine w w2 Z :=
 ⟨h'.os.trans h.os,h'.tape.trans h.tape,h'.output.trans h.output,Nat.le_trans h.size h'.size,fun k h1 h2=>(h'.block k (Nat.lt_of_lt_of_le h1 h.size) (fun h3=>h2 (hz k h1 h3))).trans (h.block k h1 h2)⟩
theorem Fine.go{w w1 w2:World}{Z:Nat->Prop}(h:Fine w w1 Z)(h':Fine w1 w2 (Up w Z)):Fine w w2 Z :=
 h.trans h' fun k h1 h2=>h2.elim id (fun h3=>by omega)
theorem Fine.below{w w1 w2:World}{Z:Nat->Prop}(h:Fine w w1 Z)(hb:Below w1.heap.size w1 w2):Fine w w2 Z :=
 h.trans (.of_below Z hb) fun _ _ h=>h
theorem Fine.set{w w1:World}{Z:Nat->Prop}{k:Nat}(h:Fine w w1 Z)(hk:Z k\/w.heap.size<=k)(j:Nat)(v:Value):Fine w (w1.setCell ⟨k,j,none⟩ v) Z :=
 ⟨h.os,h.tape,h.output,by rw[World.size_setCell];exact h.size,fun i h1 h2=>by
  have hne:i≠k:=by rintro rfl;exact hk.elim h2 (fun h3=>by omega)
  rw[Below.heap_setCell _ _ _ _ (by dsimp only;exact hne)]
  exact h.block i h1 h2⟩
theorem Fine.down{w w1:World}{Z:Nat->Prop}(h:Fine w w1 Z){n:Nat}(hn:n<=w.heap.size)(hz:∀ k,Z k->n<=k):Below n w w1 :=
 ⟨h.os,h.tape,h.output,h.size,fun k hk=>h.block k (by omega) (fun h3=>by have:=hz k h3;omega)⟩
theorem Fine.mono{w w1:World}{Z Z':Nat->Prop}(h:Fine w w1 Z)(hz:∀ k,Z k->Z' k):Fine w w1 Z':=⟨h.os,h.tape,h.output,h.size,fun k h1 h2=>h.block k h1 (fun h3=>h2 (hz k h3))⟩
theorem Dt{w w':World}{lo size n:Nat}{e:TypeId}{v:Value}{xs:List Value}(h:w.ownsRow lo e size v n xs)(hk:∀ g,v.ownBlock=some g->w'.heap[g]?=w.heap[g]?):w'.ownsRow lo e size v n xs:=by
 refine⟨h.1,?_⟩
 rcases h.2 with h1|⟨g,cap,cur,rfl,hg,hb,rest⟩
 ·exact .inl h1
 ·exact .inr ⟨g,cap,cur,rfl,hg,(hk g rfl).trans hb,rest⟩
def Has(Xb:Ex)(w:World)(B lo:Nat)(Z:Nat->Prop)(M:Mm):Prop :=
 ∃ aS aH aF aL cS cH cF cL,Mine Xb w B lo aS aH aF aL cS cH cF cL M/\∀ k,Foot B aS aH aF aL k->Z k
theorem Qx{aS:Option Addr}{n c g:Nat}(h:(Value.slice aS n c).ownBlock=some g):∃ ad,aS=some ad/\ad.block=g:=by
 cases aS with
 | none=>cases h
 | some ad=>exact⟨ad,rfl,by injection h⟩
theorem Mine.same{w w':World}{B lo:Nat}{aS aH aF aL:Option Addr}{cS cH cF cL:Nat}{M:Mm}(m:Mine Xb w B lo aS aH aF aL cS cH cF cL M)(hz:w.heap.size<=w'.heap.size)
  (hk:∀ k,k<w.heap.size->Foot B aS aH aF aL k->w'.heap[k]?=w.heap[k]?):Mine Xb w' B lo aS aH aF aL cS cH cF cL M:=by
 obtain⟨hB,⟨s,h,f,l,hf,hl,fl,lz⟩,m1,m2,m3,m4⟩:=m
 refine⟨(hk B (lt_of_block hB) (.inl rfl)).trans hB,⟨?_,?_,?_,?_,hf,hl,fl,Nat.le_trans lz hz⟩,m1,m2,m3,m4⟩
 ·exact Dt s fun g hg=>hk g (s.lt g hg).2 (.inr (.inl (Qx hg)))
 ·exact Dt h fun g hg=>hk g (h.lt g hg).2 (.inr (.inr (.inl (Qx hg))))
 ·exact Dt f fun g hg=>hk g (f.lt g hg).2 (.inr (.inr (.inr (.inl (Qx hg)))))
 ·exact Dt l fun g hg=>hk g (l.lt g hg).2 (.inr (.inr (.inr (.inr (Qx hg)))))
theorem Has.same{w w':World}{B lo:Nat}{Z:Nat->Prop}{M:Mm}(h:Has Xb w B lo Z M)(hz:w.heap.size<=w'.heap.size)(hk:∀ k,k<w.heap.size->Z k->w'.heap[k]?=w.heap[k]?):Has Xb w' B lo Z M:=by
 obtain⟨aS,aH,aF,aL,cS,cH,cF,cL,m,hf⟩:=h
 exact⟨aS,aH,aF,aL,cS,cH,cF,cL,m.same hz (fun k h1 h2=>hk k h1 (hf k h2)),hf⟩
theorem Has.below{w w':World}{B lo:Nat}{Z:Nat->Prop}{M:Mm}(h:Has Xb w B lo Z M)(hb:Below w.heap.size w w'):Has Xb w' B lo Z M:=h.same hb.size fun k h1 _=>hb.block k h1
theorem Has.fine{w w':World}{B lo:Nat}{Z Z':Nat->Prop}{M:Mm}(h:Has Xb w B lo Z M)(hf:Fine w w' Z')(hd:∀ k,k<w.heap.size->Z k->¬ Z' k):Has Xb w' B lo Z M:=h.same hf.size fun k h1 h2=>hf.block k h1 (hd k h1 h2)
theorem Has.mono{w:World}{B lo:Nat}{Z Z':Nat->Prop}{M:Mm}(h:Has Xb w B lo Z M)(hz:∀ k,k<w.heap.size->Z k->Z' k):Has Xb w B lo Z' M:=by
 obtain⟨aS,aH,aF,aL,cS,cH,cF,cL,m,hf⟩:=h
 refine⟨aS,aH,aF,aL,cS,cH,cF,cL,m,fun k hk=>hz k ?_ (hf k hk)⟩
 rcases hk with rfl|⟨ad,rfl,rfl⟩|⟨ad,rfl,rfl⟩|⟨ad,rfl,rfl⟩|⟨ad,rfl,rfl⟩
 ·exact lt_of_block m.box
 ·exact(m.c.s.lt _ rfl).2
 ·exact(m.c.h.lt _ rfl).2
 ·exact(m.c.f.lt _ rfl).2
 ·exact(m.c.l.lt _ rfl).2
theorem Has.up{w:World}{B lo:Nat}{Z:Nat->Prop}{M:Mm}(h:Has Xb w B lo Z M):Has Xb w B lo (Up w Z) M:=h.mono fun _ _ h=>.inl h
theorem a0m{M:Mm}(h:Ok M):M.free.length<=12:=by
 have h1:=few' M.slots.length M.free h.nodup (fun a ha=>by
  have:=(Dp _ _).1 (h.free a ha)
  exact⟨this.1,this.2.1⟩)
 have:=h.ns
 omega
theorem a4z{B:Nat}{aS aH aF aL aF':Option Addr}{Z:Nat->Prop}{n:Nat}(hf:∀ k,Foot B aS aH aF aL k->Z k)(hn:∀ ad,aF'=some ad->n<=ad.block):∀ k,Foot B aS aH aF' aL k->Z k\/n<=k:=by
 rintro k (rfl|h|h|⟨ad,e,rfl⟩|h)
 ·exact .inl (hf _ (.inl rfl))
 ·exact .inl (hf _ (.inr (.inl h)))
 ·exact .inl (hf _ (.inr (.inr (.inl h))))
 ·exact .inr (hn ad e)
 ·exact .inl (hf _ (.inr (.inr (.inr (.inr h)))))
theorem a5i{M:Mm}{w:World}{B lo:Nat}{Z:Nat->Prop}{i:Int}(H:Has Xb w B lo Z M)(hM:Ok M)(hi:isSl M i=true) :
  Calls Tryz.prog 201 #[.pointer (some ⟨B,0,none⟩),O J i] w fun e w'=>e=.returned (.bool (canH M i))/\Has Xb w' B lo (Up w Z) (holdN M i)/\Fine w w' Z:=by
 have hr:=L8 hM hi
 obtain⟨i0,i1⟩:=Aq.1 hi
 have H':=H
 obtain⟨aS,aH,aF,aL,cS,cH,cF,cL,m,hf⟩:=H
 by_cases hc:canH M i=true
 ·have hc':=Le.1 hc
  obtain⟨j,rfl⟩:∃ j:Nat,i=j:=⟨i.toNat,by omega⟩
  have hj:j<M.slots.length:=by omega
  obtain⟨gS,rfl,oS,-,-,-⟩:=C9 m.c.s (by omega)
  have hrr:=Rn M j hj
  rw[hrr] at hc'
  obtain⟨c0,-,-,-,-,-,fz⟩:=Fg m.c.s hj
  refine(hold_yes w B gS _ j cS _ _ _ _ _ m.box hj c0 (fz _) hc'.1 hc'.2).mono ?_
  rintro e w' ⟨rfl,rfl⟩
  have mt:=turned m hj (M.slots[j].refs+1)
  have e1:holdN M j=Z7 M j:=by unfold holdN;rw[if_pos hc]
  rw[e1,hc]
  rw[<- hrr] at mt ⊢
  exact⟨rfl,⟨_,_,_,_,_,_,_,_,mt,fun k hk=>.inl (hf k hk)⟩,(Fine.refl w Z).set (.inl (hf gS (.inr (.inl ⟨_,rfl,rfl⟩)))) _ _⟩
 ·have hc0:canH M i=false:=by simpa using hc
  have hn:¬ (0<Be M i/\Be M i<1000):=fun h=>hc (Le.2 h)
  refine(a5h M w B lo aS aH aF aL cS cH cF cL i m i0 i1 (by omega)).mono ?_
  rintro e w' ⟨rfl,rfl⟩
  have e1:holdN M i=M:=by unfold holdN;rw[if_neg hc]
  rw[e1,hc0]
  exact⟨rfl,H'.up,.refl _ _⟩
theorem a1c{M:Mm}{w:World}{B lo:Nat}{Z:Nat->Prop}{i:Int}(H:Has Xb w B lo Z M)(hM:Ok M)(hi:isSl M i=true) :
  Calls Tryz.prog 197 #[.pointer (some ⟨B,0,none⟩),O J i] w fun e w'=>e=.returned (.bool (decide (Be M i≠0)))/\Has Xb w' B lo (Up w Z) (putN M i)/\Fine w w' Z:=by
 have hr:=L8 hM hi
 have hfew:=a0m hM
 obtain⟨i0,i1⟩:=Aq.1 hi
 have H':=H
 obtain⟨aS,aH,aF,aL,cS,cH,cF,cL,m,hf⟩:=H
 by_cases h0:Be M i=0
 ·refine(put_fail M w B lo aS aH aF aL cS cH cF cL i m i0 i1 h0).mono ?_
  rintro e w' ⟨rfl,rfl⟩
  have e1:putN M i=M:=by unfold putN;rw[if_pos h0]
  rw[e1]
  exact⟨by simp[h0],H'.up,.refl _ _⟩
 have ed:decide (Be M i≠0)=true:=by simp[h0]
 have e0:putN M i=putM M i:=by unfold putN;rw[if_neg h0]
 rw[ed,e0]
 obtain⟨j,rfl⟩:∃ j:Nat,i=j:=⟨i.toNat,by omega⟩
 have hj:j<M.slots.length:=by omega
 obtain⟨gS,rfl,oS,-,-,-⟩:=C9 m.c.s (by omega)
 have hZ:Z gS:=hf gS (.inr (.inl ⟨_,rfl,rfl⟩))
 have hrr:=Rn M j hj
 obtain⟨c0,-,-,-,-,-,fz⟩:=Fg m.c.s hj
 by_cases hl:Be M j=1
 ·rw[<- hrr,hl] at c0
  have mt:=turned m hj 0
  refine(put_last w B gS _ j cS cF aF M.free _ _ _ m.box hj c0 (fz _) m.ne_s mt.at.f (by omega)).mono ?_
  rintro e w' ⟨rfl,a',c',w1,hb,ho,rfl⟩
  have e1:putM M j = { M with slots:=Dx M j 0,free:=M.free ++ [(j:Int)] }:=by simp[putM,hl]
  have hlen:(M.free ++ [(j:Int)]).length=M.free.length+1:=by simp
  rw[e1]
  have hz:(w.setCell ⟨gS,j*6,none⟩ (O J 0)).heap.size=w.heap.size:=World.size_setCell ..
  have hi':=Y4 ho
  rw[<- hz] at hb ho
  have mg:=mt.newF (M.free ++ [(j:Int)]) (by rw[hlen];omega) hb hlen ho
  refine⟨rfl,⟨_,_,_,_,_,_,_,_,mg,a4z hf hi'⟩,?_⟩
  exact(((Fine.refl w Z).set (.inl hZ) (j*6) (O J 0)).below hb).set (.inl (hf B (.inl rfl))) _ _
 ·have hr2:1<M.slots[j].refs:=by omega
  refine(put_more w B gS _ j cS _ _ _ _ _ m.box hj c0 (fz _) hr2 (by omega)).mono ?_
  rintro e w' ⟨rfl,rfl⟩
  have e1:putM M j = { M with slots:=Dx M j (Be M j - 1) }:=by simp[putM,hl]
  rw[e1]
  have mt:=turned m hj (M.slots[j].refs - 1)
  rw[<- hrr] at mt ⊢
  exact⟨rfl,⟨_,_,_,_,_,_,_,_,mt,fun k hk=>.inl (hf k hk)⟩,(Fine.refl w Z).set (.inl hZ) _ _⟩
end
section
open Go.ChangeShapes Go.WideShapes Go.ChangeAt Go.RowKit Go.Joins Go.Maps
theorem Vt(aS aH aF aL:Option Addr)(nS nH nF nL cS cH cF cL:Nat)(now k a b t bk sl:Int)(w:World)(hn:nS<=9223372036854775807)(hh:nH<=9223372036854775807) :
  Calls Tryz.prog 143 #[.agg #[.slice aS nS cS,.slice aH nH cH,.slice aF nF cF,.slice aL nL cL,.int .i64 now],.agg #[.int .i64 k,.int .i64 a,.int .i64 b,.int .i64 t,.int .i64 bk,.int .i64 sl]] w fun e w'=>e=.returned (.int .i64 (Dw nS nH ⟨k,a,b,t,bk,sl⟩))/\Below w.heap.size w w':=by
 have b0:Below w.heap.size w ((w.alloc (.cells #[.slice aS nS cS,.slice aH nH cH,.slice aF nF cF,.slice aL nL cL,.int .i64 now] 25)).alloc (.cells #[.int .i64 k,.int .i64 a,.int .i64 b,.int .i64 t,.int .i64 bk,.int .i64 sl] 32)):=below_alloc2 w _ _
 have hk:∀ W:World,Calls Tryz.prog 96 #[.agg #[.int .i64 a,.int .i64 b]] W fun e w'=>e=.returned (.int .i64 (if keyB a b then 0 else 3))/\Below W.heap.size W w':=fun W=>a2l a b W
 by_cases h13:k=1\/k=3
 ·rw[Ry h13]
  generalize (if keyB a b then (0:Int) else 3)=kv at *
  rcases h13 with rfl|rfl
  all_goals
   go_enter Tryz.func143,Tryz.ntmps143
   go_wp2_with (go_at_call 96;refine(hk _).mono ?_;rintro e w1 ⟨rfl,hb1⟩)
   go_ret
   exact⟨rfl,b0.trans (hb1.mono b0.size)⟩
 by_cases h2:k=2
 ·subst h2
  clear h13
  rw[Xd]
  cases hT:inB t 1 1000000
  ·rw[Bool.false_and,if_neg (by simp)]
   go_enter Tryz.func143,Tryz.ntmps143
   go_wp2_with (go_at_call 85;refine(Bi _ _ _ _).mono ?_;rintro e w1 ⟨rfl,rfl⟩)
   go_ret
   exact⟨rfl,b0⟩
  ·rw[Bool.true_and]
   generalize (if keyB a b then (0:Int) else 3)=kv at *
   go_enter Tryz.func143,Tryz.ntmps143
   go_wp2_with (first|(go_at_call 85;refine(Bi _ _ _ _).mono ?_;rintro e w1 ⟨rfl,rfl⟩)|(go_at_call 96;refine(hk _).mono ?_;rintro e w1 ⟨rfl,hb1⟩))
   go_ret
   exact⟨rfl,b0.trans (hb1.mono b0.size)⟩
 by_cases h45:k=4\/k=5
 ·rw[callE_bk h45]
  clear h13 h2
  have hc:∀ W:World,Calls Tryz.prog 97 #[.agg #[.slice aS nS cS,.slice aH nH cH,.slice aF nF cF,.slice aL nL cL,.int .i64 now],.int .i64 bk] W fun e w'=>e=.returned (.bool (inB bk 0 ((nH:Int) - 1)))/\Below W.heap.size W w':=fun W=>Fj aS aH aF aL nS nH nF nL cS cH cF cL now bk W hh
  cases hB:inB bk 0 ((nH:Int) - 1) <;> (rw[hB] at hc;rcases h45 with rfl|rfl)
  all_goals
   first|rw[if_pos rfl] | rw[if_neg (by simp)]
   go_enter Tryz.func143,Tryz.ntmps143
   go_wp2_with (go_at_call 97;refine(hc _).mono ?_;rintro e w1 ⟨rfl,hb1⟩)
   go_ret
   exact⟨rfl,b0.trans (hb1.mono b0.size)⟩
 by_cases h6:k=6
 ·subst h6
  clear h13 h2 h45
  rw[Rz]
  have hc:∀ W:World,Calls Tryz.prog 111 #[.agg #[.slice aS nS cS,.slice aH nH cH,.slice aF nF cF,.slice aL nL cL,.int .i64 now],.int .i64 sl] W fun e w'=>e=.returned (.bool (inB sl 0 ((nS:Int) - 1)))/\Below W.heap.size W w':=fun W=>Eh aS aH aF aL nS nH nF nL cS cH cF cL now sl W hn
  cases hB:inB sl 0 ((nS:Int) - 1) <;> rw[hB] at hc
  all_goals
   first|rw[if_pos rfl] | rw[if_neg (by simp)]
   go_enter Tryz.func143,Tryz.ntmps143
   go_wp2_with (go_at_call 111;refine(hc _).mono ?_;rintro e w1 ⟨rfl,hb1⟩)
   go_ret
   exact⟨rfl,b0.trans (hb1.mono b0.size)⟩
 have hno:k<1\/6<k:=by omega
 rw[callE_no hno]
 have e1:(k==1)=false:=by rw[beq_eq_false_iff_ne];omega
 have e2:(k==2)=false:=by rw[beq_eq_false_iff_ne];omega
 have e3:(k==3)=false:=by rw[beq_eq_false_iff_ne];omega
 have e4:(k==4)=false:=by rw[beq_eq_false_iff_ne];omega
 have e5:(k==5)=false:=by rw[beq_eq_false_iff_ne];omega
 have e6:(k==6)=false:=by rw[beq_eq_false_iff_ne];omega
 clear h13 h2 h45 h6 hno
 go_enter Tryz.func143,Tryz.ntmps143
 go_wp2
 go_ret
 exact⟨rfl,b0⟩
theorem plainElem_int_inv{H:Type}{v:Value}{z:DataW H × List MemPlace}(h:plainElem Tryz.prog 36 v=some z):∃ x,v=.int .i64 x/\z=(.lit (.int .i64 x),[]):=by
 unfold plainElem at h
 rw[Tryz.underlying36] at h
 cases v <;> simp at h
 obtain⟨⟨rfl,_⟩,h⟩:=h
 exact⟨_,rfl,h.symm⟩
theorem frObj(f:Fr)(aK:Option Addr)(cK:Nat):∃ o:Obj,o=.cells #[.int .i64 f.c.kind,.int .i64 f.c.a,.int .i64 f.c.b,.int .i64 f.c.time,.int .i64 f.c.bk,.int .i64 f.c.slot,.int .i64 f.pl,.int .i64 f.cur,.int .i64 f.prev,.int .i64 f.slot,.int .i64 f.n,.slice aK f.keys.length cK,.bool f.done,.int .i64 f.e] 47:=⟨_,rfl⟩
end
end Go.Proofs.YthhgoenomehobaaGreat.mm
