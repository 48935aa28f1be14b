/- Parts. -/
import Derived.Test.YthhgoenomehobaaGreatP02
import Derived.Test.YthhgoenomehobaaGreatP01
import Derived.Deep.RegionWith
import Derived.Laws.AppendOwnNone
import Derived.Deep.RegionLaw
import Derived.Deep.QuietTactic
import Derived.BigQuiet
import Derived.BigRegion
import Derived.Laws.StructEq
import Derived.Carry
namespace Go.Proofs.YthhgoenomehobaaGreat.mm
set_option maxRecDepth 100000
set_option linter.unusedVariables false
open Go.Value renaming int → O, slice → Y
open Go.IntKind renaming i64 → J
section
open Go.ChangeShapes Go.WideShapes Go.ChangeAt Go.RowKit Go.Joins Go.Maps
structure Fl where
 a:Int
 b:Int
 slot:Int
 unt:Int
def Fl.enc(f:Fl):List Value:=[O J f.a,O J f.b,O J f.slot,O J f.unt]
def encF(l:List Fl):List Value:=l.flatMap Fl.enc
theorem Vk(s:Fl)(l:List Fl):encF (s :: l)=s.enc++encF l:=by simp[encF]
theorem encF_len(l:List Fl):(encF l).length=l.length*4:=by
 induction l with
 | nil=>rfl
 | cons s l ih=>rw[Vk,List.length_append,ih];simp[Fl.enc];omega
theorem encF_get(l:List Fl)(i q:Nat)(h:i<l.length)(hq:q<4):(encF l)[i*4+q]?=(l[i].enc)[q]?:=by
 induction l generalizing i with
 | nil=>simp at h
 | cons s l ih =>
  rw[Vk]
  match i with
  | 0 =>
   rw[List.getElem?_append_left (by simp[Fl.enc];omega)]
   simp
  | i+1 =>
   rw[List.getElem?_append_right (by simp[Fl.enc];omega)]
   have hl:s.enc.length=4:=rfl
   rw[hl,show (i+1)*4+q - 4=i*4+q by omega,ih i (by simpa using h)]
   simp
structure FRow(w:World)(ao:Option Addr)(cap:Nat)(l:List Fl):Prop where
 le:l.length<=cap
 max:l.length*32<=140737488351232
 nil:ao=none->cap=0
 at_:l.length=0\/∃ b o,ao=some ⟨b,o,none⟩/\∀ i (h:i<l.length),
  w.cell? ⟨b,o+i*4,none⟩=some (O J l[i].a)/\w.cell? ⟨b,o+i*4+1,none⟩=some (O J l[i].b)/\w.cell? ⟨b,o+i*4+2,none⟩=some (O J l[i].slot)/\w.cell? ⟨b,o+i*4+3,none⟩=some (O J l[i].unt)
theorem FRow.below{w w':World}{ao:Option Addr}{cap:Nat}{l:List Fl}(r:FRow w ao cap l)(hb:Below w.heap.size w w'):FRow w' ao cap l:=by
 refine⟨r.le,r.max,r.nil,?_⟩
 rcases r.at_ with h|⟨b,o,h,hc⟩
 ·exact .inl h
 ·refine .inr ⟨b,o,h,fun i hi=>?_⟩
  obtain⟨c0,c1,c2,c3⟩:=hc i hi
  have lt:=cell_lt c0
  obtain⟨q,_⟩:=Ee hb
  exact⟨(q _ _ lt).trans c0,(q _ _ lt).trans c1,(q _ _ lt).trans c2,(q _ _ lt).trans c3⟩
theorem FRow.N7{w:World}{b cap:Nat}{S:List Fl}(hl:S.length<=cap)(hm:S.length*32<=140737488351232)(hc:∀ j,j<S.length*4->w.cell? ⟨b,j,none⟩=(encF S)[j]?):FRow w (some ⟨b,0,none⟩) cap S:=by
 refine⟨hl,hm,(fun h=>by cases h),.inr ⟨b,0,rfl,fun i hi=>?_⟩⟩
 have e:∀ q,q<4->w.cell? ⟨b,0+i*4+q,none⟩=(S[i].enc)[q]?:=fun q hq=>by
  rw[Nat.zero_add,hc _ (by omega),encF_get S i q hi hq]
 exact⟨e 0 (by omega),e 1 (by omega),e 2 (by omega),e 3 (by omega)⟩
theorem FRow.Jm{w:World}{base n:Nat}{v:Value}{S:List Fl}(h:w.ownsRow base 61 4 v n (encF S))(hm:S.length*32<=140737488351232):∃ ao cap,v=Y ao S.length cap/\FRow w ao cap S:=by
 have hl:=h.1
 rw[encF_len] at hl
 have hn:S.length=n:=by omega
 subst hn
 rcases h.2 with ⟨rfl,h0⟩|⟨g,cap,cur,rfl,hg,hb,hc,-,hs,ht⟩
 ·exact⟨none,0,by rw[h0],by omega,hm,fun _=>rfl,.inl h0⟩
 ·exact⟨_,_,rfl,.N7 hc hm fun j hj=>h.cellAt j hj⟩
theorem iF:(Tryz.prog.info? 61).map (fun i=>(i.zero,i.size,i.bytes))=some (some (.agg #[O J 0,O J 0,O J 0,O J 0]),4,32):=by kernel_rfl
def Ec(M:Mm)(x:Int):Fl:=⟨(A8 M x).a,(A8 M x).b,x,(A8 M x).unt⟩
def Eu(M:Mm):List Fl:=if chkC M=0 then (allC M).map (Ec M) else []
theorem four_new(w:World)(f:Fl):∀ (j:Nat) (u:Value),(f.enc)[j]?=some u->(w.alloc (.cells #[O J f.a,O J f.b,O J f.slot,O J f.unt] 61)).cell? ((⟨w.heap.size,0,none⟩:Addr).add j)=some u:=by
 intro j u hu
 rw[Addr.add_lit]
 match j,hu with
 | 0,hu=>simp[Fl.enc] at hu;subst hu;simp
 | 1,hu=>simp[Fl.enc] at hu;subst hu;simp
 | 2,hu=>simp[Fl.enc] at hu;subst hu;simp
 | 3,hu=>simp[Fl.enc] at hu;subst hu;simp
 | j+4,hu=>simp[Fl.enc] at hu
set_option maxHeartbeats 1600000 in
theorem app72(M:Mm)(aS aH aF aL:Option Addr)(cS cH cF cL:Nat)(w0 W:World)(X B Yq:Nat)(ob:Array Value)(l:List Int)(j:Nat)(L:Lst w0 B Yq 56 61 4 ob W (l.map (Ec M)).length (encF (l.map (Ec M))))(hl:l.length<=100)
  (hX:W.heap[X]?=some (.cells #[Y aS M.slots.length cS,Y aH M.heads.length cH,Y aF M.free.length cF,Y aL M.locks.length cL,O J M.now] 25 (0,0))) (A:At W aS aH aF aL cS cH cF cL M) (hj:j<M.slots.length) (hns:M.slots.length<=12) :
  Calls Tryz.prog 100 #[O J j,.pointer (some ⟨X,0,none⟩),.pointer (some ⟨B,0,none⟩)] W fun e W'=>e=.returned (.tuple #[])/\Lst w0 B Yq 56 61 4 ob W' ((l ++ [(j:Int)]).map (Ec M)).length (encF ((l ++ [(j:Int)]).map (Ec M))):=by
 obtain⟨i0,hi,hz0,hz1,hz2⟩:=info_parts iF
 obtain⟨⟨v,hB,ho⟩,hY,hb,hne⟩:=L
 have hll:(l.map (Ec M)).length=l.length:=by simp
 rw[hll] at ho
 obtain⟨ao,cap,rfl⟩:=Cb ho
 obtain⟨c0,f0,lB⟩:=Aj hB
 obtain⟨q0,q1,q2,q3,q4,-,-,-,-,-,qs⟩:=boxf hX
 rcases A.s.at_ with h0|⟨bs,os,rfl,hcs⟩
 ·omega
 obtain⟨s0,s1,s2,s3,s4,s5⟩:=hcs j hj
 have ls:=cell_lt s0
 have hsl:A8 M j=M.slots[j]:=H9 hj
 generalize hM:M.slots[j]=s at s0 s1 s2 s3 s4 s5 hsl
 obtain⟨r,ka,kb,u,i,nx⟩:=s
 dsimp only at s0 s1 s2 s3 s4 s5
 have HFl:Hid (Ec M j=⟨ka,kb,j,u⟩):=by unfold Ec;rw[hsl];rfl
 clear hM hsl hcs A hX
 have HB:Hid _:=hB
 have HY:Hid _:=hY
 have lY:=lt_of_block hY
 clear hB hY
 have kB:(W.alloc (.cells #[O J r,O J ka,O J kb,O J u,.bool i,O J nx] 64)).heap[B]?=_:=(Below.heap_alloc W (.cells #[O J r,O J ka,O J kb,O J u,.bool i,O J nx] 64) B lB).trans HB.out
 have kY:(W.alloc (.cells #[O J r,O J ka,O J kb,O J u,.bool i,O J nx] 64)).heap[Yq]?=_:=(Below.heap_alloc W (.cells #[O J r,O J ka,O J kb,O J u,.bool i,O J nx] 64) Yq lY).trans HY.out
 have KB:Hid _:=kB
 have KY:Hid _:=kY
 clear kB kY
 have hb':=hb.alloc (Nat.le_of_lt lB) (.cells #[O J r,O J ka,O J kb,O J u,.bool i,O J nx] 64)
 have HN:Hid _:=four_new (W.alloc (.cells #[O J r,O J ka,O J kb,O J u,.bool i,O J nx] 64)) ⟨ka,kb,j,u⟩
 rw[show (W.alloc (.cells #[O J r,O J ka,O J kb,O J u,.bool i,O J nx] 64)).heap.size=W.heap.size+1 by simp] at HN
 go_enter Tryz.func100,Tryz.ntmps100
 go_wp2_with (at_builtin;refine wpList_append_own_at _ rfl (.tmp 10) (.tmp 17) 56 rfl (B+1) 61 i0 (.agg #[O J 0,O J 0,O J 0,O J 0]) 4 32 Tryz.underlying56 hi hz0 hz1 hz2 rfl (by first|decide|exact Ex.ne _ _ (by decide)) _ _ _ rfl ((ho.alloc _).alloc _) ⟨W.heap.size+1,0,none⟩ 1 1 (Fl.enc ⟨ka,kb,j,u⟩) rfl rfl HN.out (by intro x hx;simp only[Fl.enc,List.mem_cons,List.not_mem_nil,or_false] at hx;rcases hx with rfl|rfl|rfl|rfl <;> rfl) (by unfold maxLen;omega) (by omega) (by simp;omega) ?_;intro v2 w2 ho2 hg2 _ hloc2;obtain⟨g2,cap2,rfl⟩:=ownsRow_form ho2 (by omega);have HL:Hid _:=Lst.step KB.out (ho.alloc _) KY.out hb' hne (by first|decide|exact Ex.ne _ _ (by decide)) (by first|decide|exact Ex.ne _ _ (by decide)) hg2 ho2;obtain⟨d0,e0,lB2⟩:=Aj (Dn KB.out hg2 (own_ne (ho.alloc _) KB.out (by first|decide|exact Ex.ne _ _ (by decide))));clear c0 f0 ho2 hg2 hloc2)
 go_end0
 refine⟨rfl,?_⟩
 have:=HL.out
 rw[show encF (l.map (Ec M) ++ [Ec M (j:Int)])=encF (l.map (Ec M))++Fl.enc ⟨ka,kb,j,u⟩ by simp[encF,HFl.out]]
 exact this
theorem fn72:∀ args W,(callFunc 100 args).run Tryz.prog W=.ok (.enter 100 args) W:=fun _ _=>by kernel_rfl
end
section
def run(nf:Mm->Fr->Fr)(nm:Mm->Fr->Mm):Nat->Mm->Fr->Mm × Fr × Bool
 | 0,M,f=>(M,f,false)
 | k+1,M,f=>if (nf M f).done then (nm M f,nf M f,true) else run nf nm k (nm M f) (nf M f)
end
section
open Go.ChangeShapes Go.WideShapes Go.ChangeAt Go.RowKit Go.Joins Go.Maps
variable {Xb:Ex}
def linkAt(M:Mm)(a:Nat)(b:Nat):Mm:={ M with slots:=M.slots.set a { A8 M a with next:=Au M b,inn:=true },heads:=M.heads.set b ((a:Int)+1) }
theorem a1u(S:List Sl)(j:Nat)(h:j<S.length)(nx:Int)(i:Bool):((encS S).set (j*6+5) (O J nx)).set (j*6+4) (.bool i)=encS (S.set j { S[j] with next:=nx,inn:=i }):=by
 induction S generalizing j with
 | nil=>simp at h
 | cons x S ih =>
  match j with
  | 0=>simp[Dq,Sl.enc]
  | j+1 =>
   have:=ih j (by simpa using h)
   rw[List.set_cons_succ,Dq,Dq,List.getElem_cons_succ,<- this]
   simp only[Sl.enc,List.cons_append,List.nil_append,show (j+1)*6+5=j*6+5+6 by omega,show (j+1)*6+4=j*6+4+6 by omega,List.set_cons_succ]
theorem Vm(S:List Sl)(j:Nat)(h:j<S.length)(nx:Int):(encS S).set (j*6+5) (O J nx)=encS (S.set j { S[j] with next:=nx }):=by
 induction S generalizing j with
 | nil=>simp at h
 | cons x S ih =>
  match j with
  | 0=>simp[Dq,Sl.enc]
  | j+1 =>
   have:=ih j (by simpa using h)
   rw[List.set_cons_succ,Dq,Dq,List.getElem_cons_succ,<- this]
   simp only[Sl.enc,List.cons_append,List.nil_append,show (j+1)*6+5=j*6+5+6 by omega,List.set_cons_succ]
set_option maxHeartbeats 1600000 in
theorem link_in(w:World)(B gS gH nS nH j b cS cH:Nat)(fv lv nv:Value)(x nx:Int)(i:Bool)
  (hB:w.heap[B]?=some (.cells (List.toArray (Y (some ⟨gS,0,none⟩) nS cS :: Y (some ⟨gH,0,none⟩) nH cH :: fv :: lv :: nv :: Xb.rs)) Xb.rt (0,0))) (hj:j<nS) (hb:b<nH) (hn:nS<=12) (hh:nH<=4) (d1:B≠gS) (d2:gS≠gH) (d3:B≠gH) (l1:gS<w.heap.size) (l2:gH<w.heap.size)
  (c4:w.cell? ⟨gS,j*6+4,none⟩=some (.bool i)) (c5:w.cell? ⟨gS,j*6+5,none⟩=some (O J nx)) (fz:∀ q,w.frozen? ⟨gS,q,none⟩=false) (ch:w.cell? ⟨gH,b,none⟩=some (O J x)) (fh:w.frozen? ⟨gH,b,none⟩=false) :
  Calls Tryz.prog 206 #[.pointer (some ⟨B,0,none⟩),O J b,O J j] w fun e w'=>e=.returned (.tuple #[]) /\
   w'=(((w.setCell ⟨gS,j*6+5,none⟩ (O J x)).setCell ⟨gS,j*6+4,none⟩ (.bool true)).setCell ⟨gH,b,none⟩ (O J ((j:Int)+1))).drew:=by
 obtain⟨q0,q1,q2,q3,q4,-,-,-,-,-,qs⟩:=boxf hB
 clear hB
 go_enter Tryz.func206,Tryz.ntmps206
 go_wp2
 go_region_with (go_at_call 214;refine(a0v _ _ (by omega) (by omega)).mono ?_;rintro e w1 ⟨rfl,rfl⟩)
 all_goals go_wp2
 all_goals go_end0
 all_goals exact⟨rfl,rfl⟩
end
section
open Go.ChangeShapes Go.WideShapes Go.ChangeAt Go.RowKit Go.Joins
variable {Xb:Ex}
def Foot(B:Nat)(aS aH aF aL:Option Addr)(k:Nat):Prop :=
 k=B\/(∃ ad,aS=some ad/\ad.block=k)\/(∃ ad,aH=some ad/\ad.block=k)\/(∃ ad,aF=some ad/\ad.block=k)\/(∃ ad,aL=some ad/\ad.block=k)
structure Fine(w w':World)(Z:Nat->Prop):Prop where
 os:w'.os=w.os
 tape:w'.tape=w.tape
 output:w'.output=w.output
 size:w.heap.size<=w'.heap.size
 block:∀ k,k<w.heap.size->¬ Z k->w'.heap[k]?=w.heap[k]?
def Up(w:World)(Z:Nat->Prop)(k:Nat):Prop:=Z k\/w.heap.size<=k
theorem Fine.refl(w:World)(Z:Nat->Prop):Fine w w Z:=⟨rfl,rfl,rfl,Nat.le_refl _,fun _ _ _=>rfl⟩
theorem Fine.of_below{w w':World}(Z:Nat->Prop)(hb:Below w.heap.size w w'):Fine w w' Z:=⟨hb.os,hb.tape,hb.output,hb.size,fun k h _=>hb.block k h⟩
theorem Fine.trans{w w1 w2:World}{Z Z':Nat->Prop}(h:Fine w w1 Z)(h':Fine w1 w2 Z')(hz:∀ k,k<w.heap.size->Z' k->Z k):Fine w w2 Z :=
 ⟨h'.os.trans h.os,h'.tape.trans h.tape,h'.output.trans h.output,Nat.le_trans h.size h'.size,fun k h1 h2=>(h'.block k (Nat.lt_of_lt_of_le h1 h.size) (fun h3=>h2 (hz k h1 h3))).trans (h.block k h1 h2)⟩
theorem Fine.go{w w1 w2:World}{Z:Nat->Prop}(h:Fine w w1 Z)(h':Fine w1 w2 (Up w Z)):Fine w w2 Z :=
 h.trans h' fun k h1 h2=>h2.elim id (fun h3=>by omega)
theorem Fine.below{w w1 w2:World}{Z:Nat->Prop}(h:Fine w w1 Z)(hb:Below w1.heap.size w1 w2):Fine w w2 Z :=
 h.trans (.of_below Z hb) fun _ _ h=>h
theorem Fine.set{w w1:World}{Z:Nat->Prop}{k:Nat}(h:Fine w w1 Z)(hk:Z k\/w.heap.size<=k)(j:Nat)(v:Value):Fine w (w1.setCell ⟨k,j,none⟩ v) Z :=
 ⟨h.os,h.tape,h.output,by rw[World.size_setCell];exact h.size,fun i h1 h2=>by
  have hne:i≠k:=by rintro rfl;exact hk.elim h2 (fun h3=>by omega)
  rw[Below.heap_setCell _ _ _ _ (by dsimp only;exact hne)]
  exact h.block i h1 h2⟩
theorem Fine.down{w w1:World}{Z:Nat->Prop}(h:Fine w w1 Z){n:Nat}(hn:n<=w.heap.size)(hz:∀ k,Z k->n<=k):Below n w w1 :=
 ⟨h.os,h.tape,h.output,h.size,fun k hk=>h.block k (by omega) (fun h3=>by have:=hz k h3;omega)⟩
theorem Fine.mono{w w1:World}{Z Z':Nat->Prop}(h:Fine w w1 Z)(hz:∀ k,Z k->Z' k):Fine w w1 Z':=⟨h.os,h.tape,h.output,h.size,fun k h1 h2=>h.block k h1 (fun h3=>h2 (hz k h3))⟩
theorem Cf{w w':World}{lo size n:Nat}{e:TypeId}{v:Value}{xs:List Value}(h:w.ownsRow lo e size v n xs)(hk:∀ g,v.ownBlock=some g->w'.heap[g]?=w.heap[g]?):w'.ownsRow lo e size v n xs:=by
 refine⟨h.1,?_⟩
 rcases h.2 with h1|⟨g,cap,cur,rfl,hg,hb,rest⟩
 ·exact .inl h1
 ·exact .inr ⟨g,cap,cur,rfl,hg,(hk g rfl).trans hb,rest⟩
def Has(Xb:Ex)(w:World)(B lo:Nat)(Z:Nat->Prop)(M:Mm):Prop :=
 ∃ aS aH aF aL cS cH cF cL,Mine Xb w B lo aS aH aF aL cS cH cF cL M/\∀ k,Foot B aS aH aF aL k->Z k
theorem P5{aS:Option Addr}{n c g:Nat}(h:(Value.slice aS n c).ownBlock=some g):∃ ad,aS=some ad/\ad.block=g:=by
 cases aS with
 | none=>cases h
 | some ad=>exact⟨ad,rfl,by injection h⟩
theorem Mine.same{w w':World}{B lo:Nat}{aS aH aF aL:Option Addr}{cS cH cF cL:Nat}{M:Mm}(m:Mine Xb w B lo aS aH aF aL cS cH cF cL M)(hz:w.heap.size<=w'.heap.size)
  (hk:∀ k,k<w.heap.size->Foot B aS aH aF aL k->w'.heap[k]?=w.heap[k]?):Mine Xb w' B lo aS aH aF aL cS cH cF cL M:=by
 obtain⟨hB,⟨s,h,f,l,hf,hl,fl,lz⟩,m1,m2,m3,m4⟩:=m
 refine⟨(hk B (lt_of_block hB) (.inl rfl)).trans hB,⟨?_,?_,?_,?_,hf,hl,fl,Nat.le_trans lz hz⟩,m1,m2,m3,m4⟩
 ·exact Cf s fun g hg=>hk g (s.lt g hg).2 (.inr (.inl (P5 hg)))
 ·exact Cf h fun g hg=>hk g (h.lt g hg).2 (.inr (.inr (.inl (P5 hg))))
 ·exact Cf f fun g hg=>hk g (f.lt g hg).2 (.inr (.inr (.inr (.inl (P5 hg)))))
 ·exact Cf l fun g hg=>hk g (l.lt g hg).2 (.inr (.inr (.inr (.inr (P5 hg)))))
theorem Has.same{w w':World}{B lo:Nat}{Z:Nat->Prop}{M:Mm}(h:Has Xb w B lo Z M)(hz:w.heap.size<=w'.heap.size)(hk:∀ k,k<w.heap.size->Z k->w'.heap[k]?=w.heap[k]?):Has Xb w' B lo Z M:=by
 obtain⟨aS,aH,aF,aL,cS,cH,cF,cL,m,hf⟩:=h
 exact⟨aS,aH,aF,aL,cS,cH,cF,cL,m.same hz (fun k h1 h2=>hk k h1 (hf k h2)),hf⟩
theorem Has.below{w w':World}{B lo:Nat}{Z:Nat->Prop}{M:Mm}(h:Has Xb w B lo Z M)(hb:Below w.heap.size w w'):Has Xb w' B lo Z M:=h.same hb.size fun k h1 _=>hb.block k h1
theorem Has.fine{w w':World}{B lo:Nat}{Z Z':Nat->Prop}{M:Mm}(h:Has Xb w B lo Z M)(hf:Fine w w' Z')(hd:∀ k,k<w.heap.size->Z k->¬ Z' k):Has Xb w' B lo Z M:=h.same hf.size fun k h1 h2=>hf.block k h1 (hd k h1 h2)
theorem Has.mono{w:World}{B lo:Nat}{Z Z':Nat->Prop}{M:Mm}(h:Has Xb w B lo Z M)(hz:∀ k,k<w.heap.size->Z k->Z' k):Has Xb w B lo Z' M:=by
 obtain⟨aS,aH,aF,aL,cS,cH,cF,cL,m,hf⟩:=h
 refine⟨aS,aH,aF,aL,cS,cH,cF,cL,m,fun k hk=>hz k ?_ (hf k hk)⟩
 rcases hk with rfl|⟨ad,rfl,rfl⟩|⟨ad,rfl,rfl⟩|⟨ad,rfl,rfl⟩|⟨ad,rfl,rfl⟩
 ·exact lt_of_block m.box
 ·exact(m.c.s.lt _ rfl).2
 ·exact(m.c.h.lt _ rfl).2
 ·exact(m.c.f.lt _ rfl).2
 ·exact(m.c.l.lt _ rfl).2
theorem Has.up{w:World}{B lo:Nat}{Z:Nat->Prop}{M:Mm}(h:Has Xb w B lo Z M):Has Xb w B lo (Up w Z) M:=h.mono fun _ _ h=>.inl h
theorem Yf{M:Mm}(h:Ok M):M.free.length<=12:=by
 have h1:=few' M.slots.length M.free h.nodup (fun a ha=>by
  have:=(Dh _ _).1 (h.free a ha)
  exact⟨this.1,this.2.1⟩)
 have:=h.ns
 omega
theorem a2c{B:Nat}{aS aH aF aL aF':Option Addr}{Z:Nat->Prop}{n:Nat}(hf:∀ k,Foot B aS aH aF aL k->Z k)(hn:∀ ad,aF'=some ad->n<=ad.block):∀ k,Foot B aS aH aF' aL k->Z k\/n<=k:=by
 rintro k (rfl|h|h|⟨ad,e,rfl⟩|h)
 ·exact .inl (hf _ (.inl rfl))
 ·exact .inl (hf _ (.inr (.inl h)))
 ·exact .inl (hf _ (.inr (.inr (.inl h))))
 ·exact .inr (hn ad e)
 ·exact .inl (hf _ (.inr (.inr (.inr (.inr h)))))
theorem a2l{M:Mm}{w:World}{B lo:Nat}{Z:Nat->Prop}{i:Int}(H:Has Xb w B lo Z M)(hM:Ok M)(hi:isSl M i=true) :
  Calls Tryz.prog 201 #[.pointer (some ⟨B,0,none⟩),O J i] w fun e w'=>e=.returned (.bool (canH M i))/\Has Xb w' B lo (Up w Z) (holdN M i)/\Fine w w' Z:=by
 have hr:=Nk hM hi
 obtain⟨i0,i1⟩:=Bi.1 hi
 have H':=H
 obtain⟨aS,aH,aF,aL,cS,cH,cF,cL,m,hf⟩:=H
 by_cases hc:canH M i=true
 ·have hc':=Oq.1 hc
  obtain⟨j,rfl⟩:∃ j:Nat,i=j:=⟨i.toNat,by omega⟩
  have hj:j<M.slots.length:=by omega
  obtain⟨gS,rfl,oS,-,-,-⟩:=Bj m.c.s (by omega)
  have hrr:=Pn M j hj
  rw[hrr] at hc'
  obtain⟨c0,-,-,-,-,-,fz⟩:=Ep m.c.s hj
  refine(hold_yes w B gS _ j cS _ _ _ _ _ m.box hj c0 (fz _) hc'.1 hc'.2).mono ?_
  rintro e w' ⟨rfl,rfl⟩
  have mt:=turned m hj (M.slots[j].refs+1)
  have e1:holdN M j=Zm M j:=by unfold holdN;rw[if_pos hc]
  rw[e1,hc]
  rw[<- hrr] at mt ⊢
  exact⟨rfl,⟨_,_,_,_,_,_,_,_,mt,fun k hk=>.inl (hf k hk)⟩,(Fine.refl w Z).set (.inl (hf gS (.inr (.inl ⟨_,rfl,rfl⟩)))) _ _⟩
 ·have hc0:canH M i=false:=by simpa using hc
  have hn:¬ (0<Bd M i/\Bd M i<1000):=fun h=>hc (Oq.2 h)
  refine(a2k M w B lo aS aH aF aL cS cH cF cL i m i0 i1 (by omega)).mono ?_
  rintro e w' ⟨rfl,rfl⟩
  have e1:holdN M i=M:=by unfold holdN;rw[if_neg hc]
  rw[e1,hc0]
  exact⟨rfl,H'.up,.refl _ _⟩
theorem Yr{M:Mm}{w:World}{B lo:Nat}{Z:Nat->Prop}{i:Int}(H:Has Xb w B lo Z M)(hM:Ok M)(hi:isSl M i=true) :
  Calls Tryz.prog 197 #[.pointer (some ⟨B,0,none⟩),O J i] w fun e w'=>e=.returned (.bool (decide (Bd M i≠0)))/\Has Xb w' B lo (Up w Z) (putN M i)/\Fine w w' Z:=by
 have hr:=Nk hM hi
 have hfew:=Yf hM
 obtain⟨i0,i1⟩:=Bi.1 hi
 have H':=H
 obtain⟨aS,aH,aF,aL,cS,cH,cF,cL,m,hf⟩:=H
 by_cases h0:Bd M i=0
 ·refine(put_fail M w B lo aS aH aF aL cS cH cF cL i m i0 i1 h0).mono ?_
  rintro e w' ⟨rfl,rfl⟩
  have e1:putN M i=M:=by unfold putN;rw[if_pos h0]
  rw[e1]
  exact⟨by simp[h0],H'.up,.refl _ _⟩
 have ed:decide (Bd M i≠0)=true:=by simp[h0]
 have e0:putN M i=putM M i:=by unfold putN;rw[if_neg h0]
 rw[ed,e0]
 obtain⟨j,rfl⟩:∃ j:Nat,i=j:=⟨i.toNat,by omega⟩
 have hj:j<M.slots.length:=by omega
 obtain⟨gS,rfl,oS,-,-,-⟩:=Bj m.c.s (by omega)
 have hZ:Z gS:=hf gS (.inr (.inl ⟨_,rfl,rfl⟩))
 have hrr:=Pn M j hj
 obtain⟨c0,-,-,-,-,-,fz⟩:=Ep m.c.s hj
 by_cases hl:Bd M j=1
 ·rw[<- hrr,hl] at c0
  have mt:=turned m hj 0
  refine(put_last w B gS _ j cS cF aF M.free _ _ _ m.box hj c0 (fz _) m.ne_s mt.at.f (by omega)).mono ?_
  rintro e w' ⟨rfl,a',c',w1,hb,ho,rfl⟩
  have e1:putM M j = { M with slots:=Dx M j 0,free:=M.free ++ [(j:Int)] }:=by simp[putM,hl]
  have hlen:(M.free ++ [(j:Int)]).length=M.free.length+1:=by simp
  rw[e1]
  have hz:(w.setCell ⟨gS,j*6,none⟩ (O J 0)).heap.size=w.heap.size:=World.size_setCell ..
  have hi':=Wh ho
  rw[<- hz] at hb ho
  have mg:=mt.newF (M.free ++ [(j:Int)]) (by rw[hlen];omega) hb hlen ho
  refine⟨rfl,⟨_,_,_,_,_,_,_,_,mg,a2c hf hi'⟩,?_⟩
  exact(((Fine.refl w Z).set (.inl hZ) (j*6) (O J 0)).below hb).set (.inl (hf B (.inl rfl))) _ _
 ·have hr2:1<M.slots[j].refs:=by omega
  refine(put_more w B gS _ j cS _ _ _ _ _ m.box hj c0 (fz _) hr2 (by omega)).mono ?_
  rintro e w' ⟨rfl,rfl⟩
  have e1:putM M j = { M with slots:=Dx M j (Bd M j - 1) }:=by simp[putM,hl]
  rw[e1]
  have mt:=turned m hj (M.slots[j].refs - 1)
  rw[<- hrr] at mt ⊢
  exact⟨rfl,⟨_,_,_,_,_,_,_,_,mt,fun k hk=>.inl (hf k hk)⟩,(Fine.refl w Z).set (.inl hZ) _ _⟩
end
section
open Go.ChangeShapes Go.WideShapes Go.ChangeAt Go.RowKit Go.Joins Go.Deep
def eqI(l1 l2:List Int):Bool:=decide (l1=l2)
def eqS(l1 l2:List Sl):Bool:=l1.length==l2.length && (l1.zip l2).all fun p=>slEq p.1 p.2
theorem eqI_len{l1 l2:List Int}(h:l1.length≠l2.length):eqI l1 l2=false:=by
 simp only[eqI,decide_eq_false_iff_not]
 rintro rfl
 exact h rfl
theorem eqI_ne{l1 l2:List Int}{k:Nat}(h1:k<l1.length)(h2:k<l2.length)(h:l1[k] ≠ l2[k]):eqI l1 l2=false:=by
 simp only[eqI,decide_eq_false_iff_not]
 rintro rfl
 exact h rfl
theorem eqI_all{l1 l2:List Int}(hl:l1.length=l2.length)(h:∀ j,j<l1.length->l1[j]?=l2[j]?):eqI l1 l2=true:=by
 simp only[eqI,decide_eq_true_eq]
 apply List.ext_getElem?
 intro j
 by_cases hj:j<l1.length
 ·exact h j hj
 ·rw[List.getElem?_eq_none (by omega),List.getElem?_eq_none (by omega)]
theorem a1x(l1 l2:List Int):eqI l1 l2=true ↔ l1=l2:=by simp[eqI]
theorem X7(l1 l2:List Sl):eqS l1 l2=true ↔ l1=l2:=by
 induction l1 generalizing l2 with
 | nil=>cases l2 <;> simp[eqS]
 | cons x l1 ih =>
  cases l2 with
  | nil=>simp[eqS]
  | cons y l2 =>
   have:=ih l2
   simp only[eqS,Bool.and_eq_true,beq_iff_eq] at this
   simp only[eqS,List.length_cons,List.zip_cons_cons,List.all_cons,Bool.and_eq_true,beq_iff_eq,Uu,List.cons.injEq,<- this]
   constructor
   ·rintro ⟨h1,h2,h3⟩;exact⟨h2,by omega,h3⟩
   ·rintro ⟨h1,h2,h3⟩;exact⟨by omega,h1,h3⟩
theorem Vq{l1 l2:List Sl}(h:l1≠l2):eqS l1 l2=false:=by
 rw[Bool.eq_false_iff]
 intro hh
 exact h ((X7 _ _).1 hh)
theorem Fe(w:World)(q:Nat):Below w.heap.size w (w.drewN q):=⟨rfl,rfl,rfl,Nat.le_refl _,fun _ _=>rfl⟩
theorem F6{a b:Bool}(h:a=b):Ending.returned (.bool a)=.returned (.bool b):=by rw[h]
set_option maxHeartbeats 1600000 in
theorem Jt(a1 a2:Option Addr)(c1 c2:Nat)(l1 l2:List Int)(w:World)(r1:IRow w a1 c1 l1)(r2:IRow w a2 c2 l2) :
  Calls Tryz.prog 24 #[Y a1 l1.length c1,Y a2 l2.length c2] w fun e w'=>e=.returned (.bool (eqI l1 l2))/\Below w.heap.size w w':=by
 have m1:=r1.max;have m2:=r2.max
 have n1:l1.length<=9223372036854775807:=by omega
 have n2:l2.length<=9223372036854775807:=by omega
 by_cases hl:l1.length=l2.length
 rotate_left
 ·have HV:Hid (eqI l1 l2=false):=eqI_len hl
  have hb:((l1.length:Int) != (l2.length:Int))=true:=by rw[bne_iff_ne];omega
  go_enter Tryz.func24,Tryz.ntmps24
  go_wp2
  go_ret
  exact⟨F6 HV.out.symm,Below.refl _ _⟩
 ·have HL:Hid (l1.length=l2.length):=hl
  have hb:((l1.length:Int) != (l2.length:Int))=false:=by rw[hl];simp
  clear hl
  have HZ1:Hid _:=r1.at_
  have HZ2:Hid _:=r2.at_
  clear r1 r2
  go_enter Tryz.func24,Tryz.ntmps24
  go_wp2
  go_loopw [13] (fun i wr=>∃ k q:Nat,k<=l1.length/\i=O J k/\wr=w.drewN q/\Hid (∀ j,j<k->l1[j]?=l2[j]?)) (fun i _=>l1.length - (intOf i).toNat)
  case atStart=>exact⟨0,0,Nat.zero_le _,rfl,rfl,fun j hj=>absurd hj (Nat.not_lt_zero _)⟩
  case round =>
   obtain⟨k,q,hk,rfl,rfl,HE⟩:=hrel
   by_cases hlt:k<l1.length
   ·have hlt2:k<l2.length:=by have:=HL.out;omega
    rcases HZ1.out with h0|⟨b1,o1,rfl,hc1⟩
    ·omega
    rcases HZ2.out with h0|⟨b2,o2,rfl,hc2⟩
    ·omega
    have d1:(w.drewN q).cell? ⟨b1,o1+k,none⟩=some (O J l1[k]):=hc1 k hlt
    have d2:(w.drewN q).cell? ⟨b2,o2+k,none⟩=some (O J l2[k]):=hc2 k hlt2
    clear hc1 hc2
    generalize hwq:w.drewN q=wq at d1 d2 ⊢
    have HWQ:Hid _:=hwq
    clear hwq
    generalize hx:l1[k]=x at d1
    generalize hy:l2[k]=y at d2
    have HX:Hid (l1[k]=x/\l2[k]=y):=⟨hx,hy⟩
    clear hx hy
    by_cases hxy:x=y
    ·subst hxy
     have HV:Hid (∀ j,j<k+1->l1[j]?=l2[j]?):=fun j hj=>by
      by_cases e:j=k
      ·subst e
       rw[List.getElem?_eq_getElem hlt,List.getElem?_eq_getElem hlt2,HX.out.1,HX.out.2]
      ·exact HE.out j (by omega)
     go_wp2_with fail
     go_quiet (fail)
     go_wp2
     go_roundw
     case rel=>exact⟨k+1,q+nq,by omega,by go_num,by rw[<- HWQ.out,World.drewN_drewN],HV⟩
     case measure=>simp[intOf];omega
    ·have HV:Hid (eqI l1 l2=false):=eqI_ne hlt hlt2 (by rw[HX.out.1,HX.out.2];exact hxy)
     have hn:(x != y)=true:=by simpa using hxy
     go_wp2_with fail
     go_quiet (fail)
     go_wp2
     go_ret
     exact⟨F6 HV.out.symm,by rw[<- HWQ.out,World.drewN_drewN];exact Fe _ _⟩
   ·have HV:Hid (eqI l1 l2=true):=eqI_all HL.out (fun j hj=>HE.out j (by omega))
    go_wp2
    go_ret
    exact⟨F6 HV.out.symm,Fe _ _⟩
theorem Xh(a b c d:Int)(w:World):(Op.equalIn 9999 30 (.agg #[O J a,O J b]) (.agg #[O J c,O J d])).run Tryz.prog w=.ok (a==c && b==d) w:=by
 have u3:=Tryz.underlying3
 have a3:=Tryz.isAgg3
 have z3:=Tryz.sizeOf3
 have hS:Tryz.prog.underlying 30=some (.struct (Tryz.prog.fieldsOf 30)):=by kernel_rfl
 have hp:Tryz.prog.stoodInHeld 30=false:=by kernel_rfl
 rw[show (9999:Nat)=9998+1 from rfl,run_equalIn_agg w 9998 30 _ _ hS hp]
 simp only[Program.fieldsOf,Tryz.underlying30]
 go_simp
 by_cases h1:a=c <;> by_cases h2:b=d <;> simp[h1,h2]
theorem sequal(x y:Sl)(w:World):(Op.equalIn 10000 64 (.agg #[O J x.refs,O J x.a,O J x.b,O J x.unt,.bool x.inn,O J x.next]) (.agg #[O J y.refs,O J y.a,O J y.b,O J y.unt,.bool y.inn,O J y.next])).run Tryz.prog w=.ok (slEq x y) w:=by
 have u3:=Tryz.underlying3
 have a3:=Tryz.isAgg3
 have z3:=Tryz.sizeOf3
 have u4:=Tryz.underlying4
 have a4:=Tryz.isAgg4
 have z4:=Tryz.sizeOf4
 have a37:=Tryz.isAgg30
 have z37:=Tryz.sizeOf30
 have k9:=Xh
 have hS:Tryz.prog.underlying 64=some (.struct (Tryz.prog.fieldsOf 64)):=by kernel_rfl
 have hp:Tryz.prog.stoodInHeld 64=false:=by kernel_rfl
 rw[show (10000:Nat)=9999+1 from rfl,run_equalIn_agg w 9999 64 _ _ hS hp]
 simp only[Program.fieldsOf,Tryz.underlying64]
 clear hS
 go_simp
 unfold slEq
 by_cases h1:x.refs=y.refs <;> by_cases h2:x.a=y.a <;> by_cases h3:x.b=y.b <;> by_cases h4:x.unt=y.unt <;> by_cases h5:x.inn=y.inn <;> by_cases h6:x.next=y.next <;> simp[h1,h2,h3,h4,h5,h6]
theorem eqS_ne{l1 l2:List Sl}{k:Nat}(h1:k<l1.length)(h2:k<l2.length)(h:l1[k] ≠ l2[k]):eqS l1 l2=false :=
 Vq (by rintro rfl;exact h rfl)
theorem eqS_all{l1 l2:List Sl}(hl:l1.length=l2.length)(h:∀ j,j<l1.length->l1[j]?=l2[j]?):eqS l1 l2=true:=by
 rw[X7]
 apply List.ext_getElem?
 intro j
 by_cases hj:j<l1.length
 ·exact h j hj
 ·rw[List.getElem?_eq_none (by omega),List.getElem?_eq_none (by omega)]
set_option maxHeartbeats 3200000 in
theorem Zk(a1 a2:Option Addr)(c1 c2:Nat)(l1 l2:List Sl)(w:World)(r1:SRow w a1 c1 l1)(r2:SRow w a2 c2 l2) :
  Calls Tryz.prog 75 #[Y a1 l1.length c1,Y a2 l2.length c2] w fun e w'=>e=.returned (.bool (eqS l1 l2))/\Below w.heap.size w w':=by
 have m1:=r1.max;have m2:=r2.max
 have n1:l1.length<=9223372036854775807:=by omega
 have n2:l2.length<=9223372036854775807:=by omega
 by_cases hl:l1.length=l2.length
 rotate_left
 ·have HV:Hid (eqS l1 l2=false):=Vq (by rintro rfl;exact hl rfl)
  have hb:((l1.length:Int) != (l2.length:Int))=true:=by rw[bne_iff_ne];omega
  go_enter Tryz.func75,Tryz.ntmps75
  go_wp2
  go_ret
  exact⟨F6 HV.out.symm,Below.refl _ _⟩
 ·have HL:Hid (l1.length=l2.length):=hl
  have hb:((l1.length:Int) != (l2.length:Int))=false:=by rw[hl];simp
  clear hl
  have HZ1:Hid _:=r1.at_
  have HZ2:Hid _:=r2.at_
  clear r1 r2
  go_enter Tryz.func75,Tryz.ntmps75
  go_wp2
  go_loopw [13] (fun i wr=>∃ k q:Nat,k<=l1.length/\i=O J k/\wr=w.drewN q/\Hid (∀ j,j<k->l1[j]?=l2[j]?)) (fun i _=>l1.length - (intOf i).toNat)
  case atStart=>exact⟨0,0,Nat.zero_le _,rfl,rfl,fun j hj=>absurd hj (Nat.not_lt_zero _)⟩
  case round =>
   obtain⟨k,q,hk,rfl,rfl,HE⟩:=hrel
   by_cases hlt:k<l1.length
   ·have hlt2:k<l2.length:=by have:=HL.out;omega
    rcases HZ1.out with h0|⟨b1,o1,rfl,hc1⟩
    ·omega
    rcases HZ2.out with h0|⟨b2,o2,rfl,hc2⟩
    ·omega
    obtain⟨x0,x1,x2,x3,x4,x5⟩:=hc1 k hlt
    obtain⟨y0,y1,y2,y3,y4,y5⟩:=hc2 k hlt2
    rw[<- World.cell?_drewN (n:=q)] at x0 x1 x2 x3 x4 x5 y0 y1 y2 y3 y4 y5
    clear hc1 hc2
    generalize hwq:w.drewN q=wq at x0 x1 x2 x3 x4 x5 y0 y1 y2 y3 y4 y5 ⊢
    have HWQ:Hid _:=hwq
    clear hwq
    generalize hx:l1[k]=x at x0 x1 x2 x3 x4 x5
    generalize hy:l2[k]=y at y0 y1 y2 y3 y4 y5
    have HX:Hid (l1[k]=x/\l2[k]=y):=⟨hx,hy⟩
    clear hx hy
    have se:=sequal x y
    cases hxy:slEq x y
    ·have HV:Hid (eqS l1 l2=false):=eqS_ne hlt hlt2 (by rw[HX.out.1,HX.out.2];intro e;rw[e,Qz] at hxy;cases hxy)
     go_wp2_with fail
     go_quiet (fail)
     go_wp2
     go_ret
     exact⟨F6 HV.out.symm,by rw[<- HWQ.out,World.drewN_drewN];exact Fe _ _⟩
    ·have HV:Hid (∀ j,j<k+1->l1[j]?=l2[j]?):=fun j hj=>by
      by_cases e:j=k
      ·subst e
       rw[List.getElem?_eq_getElem hlt,List.getElem?_eq_getElem hlt2,HX.out.1,HX.out.2,(Uu x y).1 hxy]
      ·exact HE.out j (by omega)
     go_wp2_with fail
     go_quiet (fail)
     go_wp2
     go_roundw
     case rel=>exact⟨k+1,q+nq,by omega,by go_num,by rw[<- HWQ.out,World.drewN_drewN],HV⟩
     case measure=>simp[intOf];omega
   ·have HV:Hid (eqS l1 l2=true):=eqS_all HL.out (fun j hj=>HE.out j (by omega))
    go_wp2
    go_ret
    exact⟨F6 HV.out.symm,Fe _ _⟩
end
section
open Go.ChangeShapes Go.WideShapes Go.ChangeAt Go.RowKit Go.Joins Go.Maps
theorem Ub(aS aH aF aL:Option Addr)(nS nH nF nL cS cH cF cL:Nat)(now k a b t bk sl:Int)(w:World)(hn:nS<=9223372036854775807)(hh:nH<=9223372036854775807) :
  Calls Tryz.prog 143 #[.agg #[.slice aS nS cS,.slice aH nH cH,.slice aF nF cF,.slice aL nL cL,.int .i64 now],.agg #[.int .i64 k,.int .i64 a,.int .i64 b,.int .i64 t,.int .i64 bk,.int .i64 sl]] w fun e w'=>e=.returned (.int .i64 (E5 nS nH ⟨k,a,b,t,bk,sl⟩))/\Below w.heap.size w w':=by
 have b0:Below w.heap.size w ((w.alloc (.cells #[.slice aS nS cS,.slice aH nH cH,.slice aF nF cF,.slice aL nL cL,.int .i64 now] 25)).alloc (.cells #[.int .i64 k,.int .i64 a,.int .i64 b,.int .i64 t,.int .i64 bk,.int .i64 sl] 32)):=below_alloc2 w _ _
 have hk:∀ W:World,Calls Tryz.prog 96 #[.agg #[.int .i64 a,.int .i64 b]] W fun e w'=>e=.returned (.int .i64 (if keyB a b then 0 else 3))/\Below W.heap.size W w':=fun W=>Zq a b W
 by_cases h13:k=1\/k=3
 ·rw[a1j h13]
  generalize (if keyB a b then (0:Int) else 3)=kv at *
  rcases h13 with rfl|rfl
  all_goals
   go_enter Tryz.func143,Tryz.ntmps143
   go_wp2_with (go_at_call 96;refine(hk _).mono ?_;rintro e w1 ⟨rfl,hb1⟩)
   go_ret
   exact⟨rfl,b0.trans (hb1.mono b0.size)⟩
 by_cases h2:k=2
 ·subst h2
  clear h13
  rw[V6]
  cases hT:inB t 1 1000000
  ·rw[Bool.false_and,if_neg (by simp)]
   go_enter Tryz.func143,Tryz.ntmps143
   go_wp2_with (go_at_call 85;refine(Bc _ _ _ _).mono ?_;rintro e w1 ⟨rfl,rfl⟩)
   go_ret
   exact⟨rfl,b0⟩
  ·rw[Bool.true_and]
   generalize (if keyB a b then (0:Int) else 3)=kv at *
   go_enter Tryz.func143,Tryz.ntmps143
   go_wp2_with (first|(go_at_call 85;refine(Bc _ _ _ _).mono ?_;rintro e w1 ⟨rfl,rfl⟩)|(go_at_call 96;refine(hk _).mono ?_;rintro e w1 ⟨rfl,hb1⟩))
   go_ret
   exact⟨rfl,b0.trans (hb1.mono b0.size)⟩
 by_cases h45:k=4\/k=5
 ·rw[Y6 h45]
  clear h13 h2
  have hc:∀ W:World,Calls Tryz.prog 97 #[.agg #[.slice aS nS cS,.slice aH nH cH,.slice aF nF cF,.slice aL nL cL,.int .i64 now],.int .i64 bk] W fun e w'=>e=.returned (.bool (inB bk 0 ((nH:Int) - 1)))/\Below W.heap.size W w':=fun W=>Ej aS aH aF aL nS nH nF nL cS cH cF cL now bk W hh
  cases hB:inB bk 0 ((nH:Int) - 1) <;> (rw[hB] at hc;rcases h45 with rfl|rfl)
  all_goals
   first|rw[if_pos rfl] | rw[if_neg (by simp)]
   go_enter Tryz.func143,Tryz.ntmps143
   go_wp2_with (go_at_call 97;refine(hc _).mono ?_;rintro e w1 ⟨rfl,hb1⟩)
   go_ret
   exact⟨rfl,b0.trans (hb1.mono b0.size)⟩
 by_cases h6:k=6
 ·subst h6
  clear h13 h2 h45
  rw[X6]
  have hc:∀ W:World,Calls Tryz.prog 111 #[.agg #[.slice aS nS cS,.slice aH nH cH,.slice aF nF cF,.slice aL nL cL,.int .i64 now],.int .i64 sl] W fun e w'=>e=.returned (.bool (inB sl 0 ((nS:Int) - 1)))/\Below W.heap.size W w':=fun W=>E8 aS aH aF aL nS nH nF nL cS cH cF cL now sl W hn
  cases hB:inB sl 0 ((nS:Int) - 1) <;> rw[hB] at hc
  all_goals
   first|rw[if_pos rfl] | rw[if_neg (by simp)]
   go_enter Tryz.func143,Tryz.ntmps143
   go_wp2_with (go_at_call 111;refine(hc _).mono ?_;rintro e w1 ⟨rfl,hb1⟩)
   go_ret
   exact⟨rfl,b0.trans (hb1.mono b0.size)⟩
 have hno:k<1\/6<k:=by omega
 rw[callE_no hno]
 have e1:(k==1)=false:=by rw[beq_eq_false_iff_ne];omega
 have e2:(k==2)=false:=by rw[beq_eq_false_iff_ne];omega
 have e3:(k==3)=false:=by rw[beq_eq_false_iff_ne];omega
 have e4:(k==4)=false:=by rw[beq_eq_false_iff_ne];omega
 have e5:(k==5)=false:=by rw[beq_eq_false_iff_ne];omega
 have e6:(k==6)=false:=by rw[beq_eq_false_iff_ne];omega
 clear h13 h2 h45 h6 hno
 go_enter Tryz.func143,Tryz.ntmps143
 go_wp2
 go_ret
 exact⟨rfl,b0⟩
theorem plainElem_int_inv{H:Type}{v:Value}{z:DataW H × List MemPlace}(h:plainElem Tryz.prog 36 v=some z):∃ x,v=.int .i64 x/\z=(.lit (.int .i64 x),[]):=by
 unfold plainElem at h
 rw[Tryz.underlying36] at h
 cases v <;> simp at h
 obtain⟨⟨rfl,_⟩,h⟩:=h
 exact⟨_,rfl,h.symm⟩
theorem frObj(f:Fr)(aK:Option Addr)(cK:Nat):∃ o:Obj,o=.cells #[.int .i64 f.c.kind,.int .i64 f.c.a,.int .i64 f.c.b,.int .i64 f.c.time,.int .i64 f.c.bk,.int .i64 f.c.slot,.int .i64 f.pl,.int .i64 f.cur,.int .i64 f.prev,.int .i64 f.slot,.int .i64 f.n,.slice aK f.keys.length cK,.bool f.done,.int .i64 f.e] 47:=⟨_,rfl⟩
end
end Go.Proofs.YthhgoenomehobaaGreat.mm
