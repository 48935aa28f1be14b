/- Parts. -/
import Derived.Test.YthhgoenomehobaaGreatS02
import Derived.Test.YthhgoenomehobaaGreatS01
import Derived.Deep.RegionWith
import Derived.Laws.AppendOwnNone
import Derived.Deep.RegionLaw
import Derived.Deep.QuietTactic
import Derived.BigQuiet
import Derived.BigRegion
import Derived.Laws.StructEq
import Derived.Carry
namespace Go.Proofs.YthhgoenomehobaaGreat.mm
set_option maxRecDepth 100000
set_option linter.unusedVariables false
open Go.Value renaming int → O, slice → Y
open Go.IntKind renaming i64 → J
section
open Go.ChangeShapes Go.WideShapes Go.ChangeAt Go.RowKit Go.Joins Go.Maps
structure Fl where
 a:Int
 b:Int
 slot:Int
 unt:Int
def Fl.enc(f:Fl):List Value:=[O J f.a,O J f.b,O J f.slot,O J f.unt]
def Nh(l:List Fl):List Value:=l.flatMap Fl.enc
theorem Yk(s:Fl)(l:List Fl):Nh (s :: l)=s.enc++Nh l:=by simp[Nh]
theorem b0o(l:List Fl):(Nh l).length=l.length*4:=by
 induction l with
 | nil=>rfl
 | cons s l ih=>rw[Yk,List.length_append,ih];simp[Fl.enc];omega
theorem b0n(l:List Fl)(i q:Nat)(h:i<l.length)(hq:q<4):(Nh l)[i*4+q]?=(l[i].enc)[q]?:=by
 induction l generalizing i with
 | nil=>simp at h
 | cons s l ih =>
  rw[Yk]
  match i with
  | 0 =>
   rw[List.getElem?_append_left (by simp[Fl.enc];omega)]
   simp
  | i+1 =>
   rw[List.getElem?_append_right (by simp[Fl.enc];omega)]
   have hl:s.enc.length=4:=rfl
   rw[hl,show (i+1)*4+q - 4=i*4+q by omega,ih i (by simpa using h)]
   simp
structure Qb(w:World)(ao:Option Addr)(cap:Nat)(l:List Fl):Prop where
 le:l.length<=cap
 max:l.length*32<=140737488351232
 nil:ao=none->cap=0
 at_:l.length=0\/∃ b o,ao=some ⟨b,o,none⟩/\∀ i (h:i<l.length),
  w.cell? ⟨b,o+i*4,none⟩=some (O J l[i].a)/\w.cell? ⟨b,o+i*4+1,none⟩=some (O J l[i].b)/\w.cell? ⟨b,o+i*4+2,none⟩=some (O J l[i].slot)/\w.cell? ⟨b,o+i*4+3,none⟩=some (O J l[i].unt)
theorem Qb.below{w w':World}{ao:Option Addr}{cap:Nat}{l:List Fl}(r:Qb w ao cap l)(hb:Below w.heap.size w w'):Qb w' ao cap l:=by
 refine⟨r.le,r.max,r.nil,?_⟩
 rcases r.at_ with h|⟨b,o,h,hc⟩
 ·exact .inl h
 ·refine .inr ⟨b,o,h,fun i hi=>?_⟩
  obtain⟨c0,c1,c2,c3⟩:=hc i hi
  have lt:=cell_lt c0
  obtain⟨q,_⟩:=Eg hb
  exact⟨(q _ _ lt).trans c0,(q _ _ lt).trans c1,(q _ _ lt).trans c2,(q _ _ lt).trans c3⟩
theorem Qb.P8{w:World}{b cap:Nat}{S:List Fl}(hl:S.length<=cap)(hm:S.length*32<=140737488351232)(hc:∀ j,j<S.length*4->w.cell? ⟨b,j,none⟩=(Nh S)[j]?):Qb w (some ⟨b,0,none⟩) cap S:=by
 refine⟨hl,hm,(fun h=>by cases h),.inr ⟨b,0,rfl,fun i hi=>?_⟩⟩
 have e:∀ q,q<4->w.cell? ⟨b,0+i*4+q,none⟩=(S[i].enc)[q]?:=fun q hq=>by
  rw[Nat.zero_add,hc _ (by omega),b0n S i q hi hq]
 exact⟨e 0 (by omega),e 1 (by omega),e 2 (by omega),e 3 (by omega)⟩
theorem Qb.Lj{w:World}{base n:Nat}{v:Value}{S:List Fl}(h:w.ownsRow base 61 4 v n (Nh S))(hm:S.length*32<=140737488351232):∃ ao cap,v=Y ao S.length cap/\Qb w ao cap S:=by
 have hl:=h.1
 rw[b0o] at hl
 have hn:S.length=n:=by omega
 subst hn
 rcases h.2 with ⟨rfl,h0⟩|⟨g,cap,cur,rfl,hg,hb,hc,-,hs,ht⟩
 ·exact⟨none,0,by rw[h0],by omega,hm,fun _=>rfl,.inl h0⟩
 ·exact⟨_,_,rfl,.P8 hc hm fun j hj=>h.cellAt j hj⟩
theorem iF:(Tryz.prog.info? 61).map (fun i=>(i.zero,i.size,i.bytes))=some (some (.agg #[O J 0,O J 0,O J 0,O J 0]),4,32):=by kernel_rfl
def Bj(M:Mm)(x:Int):Fl:=⟨(A7 M x).a,(A7 M x).b,x,(A7 M x).unt⟩
def Gx(M:Mm):List Fl:=if O4 M=0 then (Ba M).map (Bj M) else []
theorem b0t(w:World)(f:Fl):∀ (j:Nat) (u:Value),(f.enc)[j]?=some u->(w.alloc (.cells #[O J f.a,O J f.b,O J f.slot,O J f.unt] 61)).cell? ((⟨w.heap.size,0,none⟩:Addr).add j)=some u:=by
 intro j u hu
 rw[Addr.add_lit]
 match j,hu with
 | 0,hu=>simp[Fl.enc] at hu;subst hu;simp
 | 1,hu=>simp[Fl.enc] at hu;subst hu;simp
 | 2,hu=>simp[Fl.enc] at hu;subst hu;simp
 | 3,hu=>simp[Fl.enc] at hu;subst hu;simp
 | j+4,hu=>simp[Fl.enc] at hu
set_option maxHeartbeats 1600000 in
theorem app72(M:Mm)(aS aH aF aL:Option Addr)(cS cH cF cL:Nat)(w0 W:World)(X B Yq:Nat)(ob:Array Value)(l:List Int)(j:Nat)(L:Lst w0 B Yq 56 61 4 ob W (l.map (Bj M)).length (Nh (l.map (Bj M))))(hl:l.length<=100)
  (hX:W.heap[X]?=some (.cells #[Y aS M.slots.length cS,Y aH M.heads.length cH,Y aF M.free.length cF,Y aL M.locks.length cL,O J M.now] 25 (0,0))) (A:At W aS aH aF aL cS cH cF cL M) (hj:j<M.slots.length) (hns:M.slots.length<=12) :
  Calls Tryz.prog 100 #[O J j,.pointer (some ⟨X,0,none⟩),.pointer (some ⟨B,0,none⟩)] W fun e W'=>e=.returned (.tuple #[])/\Lst w0 B Yq 56 61 4 ob W' ((l ++ [(j:Int)]).map (Bj M)).length (Nh ((l ++ [(j:Int)]).map (Bj M))):=by
 obtain⟨i0,hi,hz0,hz1,hz2⟩:=info_parts iF
 obtain⟨⟨v,hB,ho⟩,hY,hb,hne⟩:=L
 have hll:(l.map (Bj M)).length=l.length:=by simp
 rw[hll] at ho
 obtain⟨ao,cap,rfl⟩:=D9 ho
 obtain⟨c0,f0,lB⟩:=Aq hB
 obtain⟨q0,q1,q2,q3,q4,-,-,-,-,-,qs⟩:=Aj hX
 rcases A.s.at_ with h0|⟨bs,os,rfl,hcs⟩
 ·omega
 obtain⟨s0,s1,s2,s3,s4,s5⟩:=hcs j hj
 have ls:=cell_lt s0
 have hsl:A7 M j=M.slots[j]:=Jc hj
 generalize hM:M.slots[j]=s at s0 s1 s2 s3 s4 s5 hsl
 obtain⟨r,ka,kb,u,i,nx⟩:=s
 dsimp only at s0 s1 s2 s3 s4 s5
 have HFl:Hid (Bj M j=⟨ka,kb,j,u⟩):=by unfold Bj;rw[hsl];rfl
 clear hM hsl hcs A hX
 have HB:Hid _:=hB
 have HY:Hid _:=hY
 have lY:=lt_of_block hY
 clear hB hY
 have kB:(W.alloc (.cells #[O J r,O J ka,O J kb,O J u,.bool i,O J nx] 64)).heap[B]?=_:=(Below.heap_alloc W (.cells #[O J r,O J ka,O J kb,O J u,.bool i,O J nx] 64) B lB).trans HB.out
 have kY:(W.alloc (.cells #[O J r,O J ka,O J kb,O J u,.bool i,O J nx] 64)).heap[Yq]?=_:=(Below.heap_alloc W (.cells #[O J r,O J ka,O J kb,O J u,.bool i,O J nx] 64) Yq lY).trans HY.out
 have KB:Hid _:=kB
 have KY:Hid _:=kY
 clear kB kY
 have hb':=hb.alloc (Nat.le_of_lt lB) (.cells #[O J r,O J ka,O J kb,O J u,.bool i,O J nx] 64)
 have HN:Hid _:=b0t (W.alloc (.cells #[O J r,O J ka,O J kb,O J u,.bool i,O J nx] 64)) ⟨ka,kb,j,u⟩
 rw[show (W.alloc (.cells #[O J r,O J ka,O J kb,O J u,.bool i,O J nx] 64)).heap.size=W.heap.size+1 by simp] at HN
 go_enter Tryz.func100,Tryz.ntmps100
 go_wp2_with (at_builtin;refine wpList_append_own_at _ rfl (.tmp 10) (.tmp 17) 56 rfl (B+1) 61 i0 (.agg #[O J 0,O J 0,O J 0,O J 0]) 4 32 Tryz.underlying56 hi hz0 hz1 hz2 rfl (by first|decide|exact Ex.ne _ _ (by decide)) _ _ _ rfl ((ho.alloc _).alloc _) ⟨W.heap.size+1,0,none⟩ 1 1 (Fl.enc ⟨ka,kb,j,u⟩) rfl rfl HN.out (by intro x hx;simp only[Fl.enc,List.mem_cons,List.not_mem_nil,or_false] at hx;rcases hx with rfl|rfl|rfl|rfl <;> rfl) (by unfold maxLen;omega) (by omega) (by simp;omega) ?_;intro v2 w2 ho2 hg2 _ hloc2;obtain⟨g2,cap2,rfl⟩:=ownsRow_form ho2 (by omega);have HL:Hid _:=Lst.step KB.out (ho.alloc _) KY.out hb' hne (by first|decide|exact Ex.ne _ _ (by decide)) (by first|decide|exact Ex.ne _ _ (by decide)) hg2 ho2;obtain⟨d0,e0,lB2⟩:=Aq (F6 KB.out hg2 (own_ne (ho.alloc _) KB.out (by first|decide|exact Ex.ne _ _ (by decide))));clear c0 f0 ho2 hg2 hloc2)
 go_end0
 refine⟨rfl,?_⟩
 have:=HL.out
 rw[show Nh (l.map (Bj M) ++ [Bj M (j:Int)])=Nh (l.map (Bj M))++Fl.enc ⟨ka,kb,j,u⟩ by simp[Nh,HFl.out]]
 exact this
theorem fn72:∀ args W,(callFunc 100 args).run Tryz.prog W=.ok (.enter 100 args) W:=fun _ _=>by kernel_rfl
end
section
def run(nf:Mm->Fr->Fr)(nm:Mm->Fr->Mm):Nat->Mm->Fr->Mm × Fr × Bool
 | 0,M,f=>(M,f,false)
 | k+1,M,f=>if (nf M f).done then (nm M f,nf M f,true) else run nf nm k (nm M f) (nf M f)
end
section
open Go.ChangeShapes Go.WideShapes Go.ChangeAt Go.RowKit Go.Joins Go.Maps
variable {Xb:Ex}
def b1e(M:Mm)(a:Nat)(b:Nat):Mm:={ M with slots:=M.slots.set a { A7 M a with next:=Ar M b,inn:=true },heads:=M.heads.set b ((a:Int)+1) }
theorem a6n(S:List Sl)(j:Nat)(h:j<S.length)(nx:Int)(i:Bool):((encS S).set (j*6+5) (O J nx)).set (j*6+4) (.bool i)=encS (S.set j { S[j] with next:=nx,inn:=i }):=by
 induction S generalizing j with
 | nil=>simp at h
 | cons x S ih =>
  match j with
  | 0=>simp[Fb,Sl.enc]
  | j+1 =>
   have:=ih j (by simpa using h)
   rw[List.set_cons_succ,Fb,Fb,List.getElem_cons_succ,<- this]
   simp only[Sl.enc,List.cons_append,List.nil_append,show (j+1)*6+5=j*6+5+6 by omega,show (j+1)*6+4=j*6+4+6 by omega,List.set_cons_succ]
theorem Ym(S:List Sl)(j:Nat)(h:j<S.length)(nx:Int):(encS S).set (j*6+5) (O J nx)=encS (S.set j { S[j] with next:=nx }):=by
 induction S generalizing j with
 | nil=>simp at h
 | cons x S ih =>
  match j with
  | 0=>simp[Fb,Sl.enc]
  | j+1 =>
   have:=ih j (by simpa using h)
   rw[List.set_cons_succ,Fb,Fb,List.getElem_cons_succ,<- this]
   simp only[Sl.enc,List.cons_append,List.nil_append,show (j+1)*6+5=j*6+5+6 by omega,List.set_cons_succ]
set_option maxHeartbeats 1600000 in
theorem b5p(w:World)(B gS gH nS nH j b cS cH:Nat)(fv lv nv:Value)(x nx:Int)(i:Bool)
  (hB:w.heap[B]?=some (.cells (List.toArray (Y (some ⟨gS,0,none⟩) nS cS :: Y (some ⟨gH,0,none⟩) nH cH :: fv :: lv :: nv :: Xb.rs)) Xb.rt (0,0))) (hj:j<nS) (hb:b<nH) (hn:nS<=12) (hh:nH<=4) (d1:B≠gS) (d2:gS≠gH) (d3:B≠gH) (l1:gS<w.heap.size) (l2:gH<w.heap.size)
  (c4:w.cell? ⟨gS,j*6+4,none⟩=some (.bool i)) (c5:w.cell? ⟨gS,j*6+5,none⟩=some (O J nx)) (fz:∀ q,w.frozen? ⟨gS,q,none⟩=false) (ch:w.cell? ⟨gH,b,none⟩=some (O J x)) (fh:w.frozen? ⟨gH,b,none⟩=false) :
  Calls Tryz.prog 206 #[.pointer (some ⟨B,0,none⟩),O J b,O J j] w fun e w'=>e=.returned (.tuple #[]) /\
   w'=(((w.setCell ⟨gS,j*6+5,none⟩ (O J x)).setCell ⟨gS,j*6+4,none⟩ (.bool true)).setCell ⟨gH,b,none⟩ (O J ((j:Int)+1))).drew:=by
 obtain⟨q0,q1,q2,q3,q4,-,-,-,-,-,qs⟩:=Aj hB
 clear hB
 go_enter Tryz.func206,Tryz.ntmps206
 go_wp2
 go_region_with (go_at_call 214;refine(a4l _ _ (by omega) (by omega)).mono ?_;rintro e w1 ⟨rfl,rfl⟩)
 all_goals go_wp2
 all_goals go_end0
 all_goals exact⟨rfl,rfl⟩
end
section
open Go.ChangeShapes Go.WideShapes Go.ChangeAt Go.RowKit Go.Joins
variable {Xb:Ex}
def A8(B:Nat)(aS aH aF aL:Option Addr)(k:Nat):Prop :=
 k=B\/(∃ ad,aS=some ad/\ad.block=k)\/(∃ ad,aH=some ad/\ad.block=k)\/(∃ ad,aF=some ad/\ad.block=k)\/(∃ ad,aL=some ad/\ad.block=k)
structure Fine(w w':World)(Z:Nat->Prop):Prop where
 os:w'.os=w.os
 tape:w'.tape=w.tape
 output:w'.output=w.output
 size:w.heap.size<=w'.heap.size
 block:∀ k,k<w.heap.size->¬ Z k->w'.heap[k]?=w.heap[k]?
def Up(w:World)(Z:Nat->Prop)(k:Nat):Prop:=Z k\/w.heap.size<=k
theorem Fine.refl(w:World)(Z:Nat->Prop):Fine w w Z:=⟨rfl,rfl,rfl,Nat.le_refl _,fun _ _ _=>rfl⟩
theorem Fine.of_below{w w':World}(Z:Nat->Prop)(hb:Below w.heap.size w w'):Fine w w' Z:=⟨hb.os,hb.tape,hb.output,hb.size,fun k h _=>hb.block k h⟩
theorem Fine.trans{w w1 w2:World}{Z Z':Nat->Prop}(h:Fine w w1 Z)(h':Fine w1 w2 Z')(hz:∀ k,k<w.heap.size->Z' k->Z k):Fine w w2 Z :=
 ⟨h'.os.trans h.os,h'.tape.trans h.tape,h'.output.trans h.output,Nat.le_trans h.size h'.size,fun k h1 h2=>(h'.block k (Nat.lt_of_lt_of_le h1 h.size) (fun h3=>h2 (hz k h1 h3))).trans (h.block k h1 h2)⟩
theorem Fine.below{w w1 w2:World}{Z:Nat->Prop}(h:Fine w w1 Z)(hb:Below w1.heap.size w1 w2):Fine w w2 Z :=
 h.trans (.of_below Z hb) fun _ _ h=>h
theorem Fine.set{w w1:World}{Z:Nat->Prop}{k:Nat}(h:Fine w w1 Z)(hk:Z k\/w.heap.size<=k)(j:Nat)(v:Value):Fine w (w1.setCell ⟨k,j,none⟩ v) Z :=
 ⟨h.os,h.tape,h.output,by rw[World.size_setCell];exact h.size,fun i h1 h2=>by
  have hne:i≠k:=by rintro rfl;exact hk.elim h2 (fun h3=>by omega)
  rw[Below.heap_setCell _ _ _ _ (by dsimp only;exact hne)]
  exact h.block i h1 h2⟩
theorem Fine.mono{w w1:World}{Z Z':Nat->Prop}(h:Fine w w1 Z)(hz:∀ k,Z k->Z' k):Fine w w1 Z':=⟨h.os,h.tape,h.output,h.size,fun k h1 h2=>h.block k h1 (fun h3=>h2 (hz k h3))⟩
theorem Dx{w w':World}{lo size n:Nat}{e:TypeId}{v:Value}{xs:List Value}(h:w.ownsRow lo e size v n xs)(hk:∀ g,v.ownBlock=some g->w'.heap[g]?=w.heap[g]?):w'.ownsRow lo e size v n xs:=by
 refine⟨h.1,?_⟩
 rcases h.2 with h1|⟨g,cap,cur,rfl,hg,hb,rest⟩
 ·exact .inl h1
 ·exact .inr ⟨g,cap,cur,rfl,hg,(hk g rfl).trans hb,rest⟩
def Has(Xb:Ex)(w:World)(B lo:Nat)(Z:Nat->Prop)(M:Mm):Prop :=
 ∃ aS aH aF aL cS cH cF cL,Mine Xb w B lo aS aH aF aL cS cH cF cL M/\∀ k,A8 B aS aH aF aL k->Z k
theorem Rx{aS:Option Addr}{n c g:Nat}(h:(Value.slice aS n c).ownBlock=some g):∃ ad,aS=some ad/\ad.block=g:=by
 cases aS with
 | none=>cases h
 | some ad=>exact⟨ad,rfl,by injection h⟩
theorem Mine.same{w w':World}{B lo:Nat}{aS aH aF aL:Option Addr}{cS cH cF cL:Nat}{M:Mm}(m:Mine Xb w B lo aS aH aF aL cS cH cF cL M)(hz:w.heap.size<=w'.heap.size)
  (hk:∀ k,k<w.heap.size->A8 B aS aH aF aL k->w'.heap[k]?=w.heap[k]?):Mine Xb w' B lo aS aH aF aL cS cH cF cL M:=by
 obtain⟨hB,⟨s,h,f,l,hf,hl,fl,lz⟩,m1,m2,m3,m4⟩:=m
 refine⟨(hk B (lt_of_block hB) (.inl rfl)).trans hB,⟨?_,?_,?_,?_,hf,hl,fl,Nat.le_trans lz hz⟩,m1,m2,m3,m4⟩
 ·exact Dx s fun g hg=>hk g (s.lt g hg).2 (.inr (.inl (Rx hg)))
 ·exact Dx h fun g hg=>hk g (h.lt g hg).2 (.inr (.inr (.inl (Rx hg))))
 ·exact Dx f fun g hg=>hk g (f.lt g hg).2 (.inr (.inr (.inr (.inl (Rx hg)))))
 ·exact Dx l fun g hg=>hk g (l.lt g hg).2 (.inr (.inr (.inr (.inr (Rx hg)))))
theorem Has.same{w w':World}{B lo:Nat}{Z:Nat->Prop}{M:Mm}(h:Has Xb w B lo Z M)(hz:w.heap.size<=w'.heap.size)(hk:∀ k,k<w.heap.size->Z k->w'.heap[k]?=w.heap[k]?):Has Xb w' B lo Z M:=by
 obtain⟨aS,aH,aF,aL,cS,cH,cF,cL,m,hf⟩:=h
 exact⟨aS,aH,aF,aL,cS,cH,cF,cL,m.same hz (fun k h1 h2=>hk k h1 (hf k h2)),hf⟩
theorem Has.below{w w':World}{B lo:Nat}{Z:Nat->Prop}{M:Mm}(h:Has Xb w B lo Z M)(hb:Below w.heap.size w w'):Has Xb w' B lo Z M:=h.same hb.size fun k h1 _=>hb.block k h1
theorem Has.fine{w w':World}{B lo:Nat}{Z Z':Nat->Prop}{M:Mm}(h:Has Xb w B lo Z M)(hf:Fine w w' Z')(hd:∀ k,k<w.heap.size->Z k->¬ Z' k):Has Xb w' B lo Z M:=h.same hf.size fun k h1 h2=>hf.block k h1 (hd k h1 h2)
theorem Has.mono{w:World}{B lo:Nat}{Z Z':Nat->Prop}{M:Mm}(h:Has Xb w B lo Z M)(hz:∀ k,k<w.heap.size->Z k->Z' k):Has Xb w B lo Z' M:=by
 obtain⟨aS,aH,aF,aL,cS,cH,cF,cL,m,hf⟩:=h
 refine⟨aS,aH,aF,aL,cS,cH,cF,cL,m,fun k hk=>hz k ?_ (hf k hk)⟩
 rcases hk with rfl|⟨ad,rfl,rfl⟩|⟨ad,rfl,rfl⟩|⟨ad,rfl,rfl⟩|⟨ad,rfl,rfl⟩
 ·exact lt_of_block m.box
 ·exact(m.c.s.lt _ rfl).2
 ·exact(m.c.h.lt _ rfl).2
 ·exact(m.c.f.lt _ rfl).2
 ·exact(m.c.l.lt _ rfl).2
theorem Has.up{w:World}{B lo:Nat}{Z:Nat->Prop}{M:Mm}(h:Has Xb w B lo Z M):Has Xb w B lo (Up w Z) M:=h.mono fun _ _ h=>.inl h
theorem Wv{M:Mm}(h:Ok M):M.free.length<=12:=by
 have h1:=b0s M.slots.length M.free h.nodup (fun a ha=>by
  have:=(Et _ _).1 (h.free a ha)
  exact⟨this.1,this.2.1⟩)
 have:=h.ns
 omega
theorem a6s{B:Nat}{aS aH aF aL aF':Option Addr}{Z:Nat->Prop}{n:Nat}(hf:∀ k,A8 B aS aH aF aL k->Z k)(hn:∀ ad,aF'=some ad->n<=ad.block):∀ k,A8 B aS aH aF' aL k->Z k\/n<=k:=by
 rintro k (rfl|h|h|⟨ad,e,rfl⟩|h)
 ·exact .inl (hf _ (.inl rfl))
 ·exact .inl (hf _ (.inr (.inl h)))
 ·exact .inl (hf _ (.inr (.inr (.inl h))))
 ·exact .inr (hn ad e)
 ·exact .inl (hf _ (.inr (.inr (.inr (.inr h)))))
theorem a6z{M:Mm}{w:World}{B lo:Nat}{Z:Nat->Prop}{i:Int}(H:Has Xb w B lo Z M)(hM:Ok M)(hi:Be M i=true) :
  Calls Tryz.prog 201 #[.pointer (some ⟨B,0,none⟩),O J i] w fun e w'=>e=.returned (.bool (Ut M i))/\Has Xb w' B lo (Up w Z) (holdN M i)/\Fine w w' Z:=by
 have hr:=L6 hM hi
 obtain⟨i0,i1⟩:=Cj.1 hi
 have H':=H
 obtain⟨aS,aH,aF,aL,cS,cH,cF,cL,m,hf⟩:=H
 by_cases hc:Ut M i=true
 ·have hc':=Ov.1 hc
  obtain⟨j,rfl⟩:∃ j:Nat,i=j:=⟨i.toNat,by omega⟩
  have hj:j<M.slots.length:=by omega
  obtain⟨gS,rfl,oS,-,-,-⟩:=Dc m.c.s (by omega)
  have hrr:=Tv M j hj
  rw[hrr] at hc'
  obtain⟨c0,-,-,-,-,-,fz⟩:=H6 m.c.s hj
  refine(b1a w B gS _ j cS _ _ _ _ _ m.box hj c0 (fz _) hc'.1 hc'.2).mono ?_
  rintro e w' ⟨rfl,rfl⟩
  have mt:=turned m hj (M.slots[j].refs+1)
  have e1:holdN M j=Gn M j:=by unfold holdN;rw[if_pos hc]
  rw[e1,hc]
  rw[<- hrr] at mt ⊢
  exact⟨rfl,⟨_,_,_,_,_,_,_,_,mt,fun k hk=>.inl (hf k hk)⟩,(Fine.refl w Z).set (.inl (hf gS (.inr (.inl ⟨_,rfl,rfl⟩)))) _ _⟩
 ·have hc0:Ut M i=false:=by simpa using hc
  have hn:¬ (0<Ap M i/\Ap M i<1000):=fun h=>hc (Ov.2 h)
  refine(a6y M w B lo aS aH aF aL cS cH cF cL i m i0 i1 (by omega)).mono ?_
  rintro e w' ⟨rfl,rfl⟩
  have e1:holdN M i=M:=by unfold holdN;rw[if_neg hc]
  rw[e1,hc0]
  exact⟨rfl,H'.up,.refl _ _⟩
theorem a1l{M:Mm}{w:World}{B lo:Nat}{Z:Nat->Prop}{i:Int}(H:Has Xb w B lo Z M)(hM:Ok M)(hi:Be M i=true) :
  Calls Tryz.prog 197 #[.pointer (some ⟨B,0,none⟩),O J i] w fun e w'=>e=.returned (.bool (decide (Ap M i≠0)))/\Has Xb w' B lo (Up w Z) (Ec M i)/\Fine w w' Z:=by
 have hr:=L6 hM hi
 have hfew:=Wv hM
 obtain⟨i0,i1⟩:=Cj.1 hi
 have H':=H
 obtain⟨aS,aH,aF,aL,cS,cH,cF,cL,m,hf⟩:=H
 by_cases h0:Ap M i=0
 ·refine(b2c M w B lo aS aH aF aL cS cH cF cL i m i0 i1 h0).mono ?_
  rintro e w' ⟨rfl,rfl⟩
  have e1:Ec M i=M:=by unfold Ec;rw[if_pos h0]
  rw[e1]
  exact⟨by simp[h0],H'.up,.refl _ _⟩
 have ed:decide (Ap M i≠0)=true:=by simp[h0]
 have e0:Ec M i=Lt M i:=by unfold Ec;rw[if_neg h0]
 rw[ed,e0]
 obtain⟨j,rfl⟩:∃ j:Nat,i=j:=⟨i.toNat,by omega⟩
 have hj:j<M.slots.length:=by omega
 obtain⟨gS,rfl,oS,-,-,-⟩:=Dc m.c.s (by omega)
 have hZ:Z gS:=hf gS (.inr (.inl ⟨_,rfl,rfl⟩))
 have hrr:=Tv M j hj
 obtain⟨c0,-,-,-,-,-,fz⟩:=H6 m.c.s hj
 by_cases hl:Ap M j=1
 ·rw[<- hrr,hl] at c0
  have mt:=turned m hj 0
  refine(b2d w B gS _ j cS cF aF M.free _ _ _ m.box hj c0 (fz _) m.ne_s mt.at.f (by omega)).mono ?_
  rintro e w' ⟨rfl,a',c',w1,hb,ho,rfl⟩
  have e1:Lt M j = { M with slots:=Dp M j 0,free:=M.free ++ [(j:Int)] }:=by simp[Lt,hl]
  have hlen:(M.free ++ [(j:Int)]).length=M.free.length+1:=by simp
  rw[e1]
  have hz:(w.setCell ⟨gS,j*6,none⟩ (O J 0)).heap.size=w.heap.size:=World.size_setCell ..
  have hi':=Xg ho
  rw[<- hz] at hb ho
  have mg:=mt.Aw (M.free ++ [(j:Int)]) (by rw[hlen];omega) hb hlen ho
  refine⟨rfl,⟨_,_,_,_,_,_,_,_,mg,a6s hf hi'⟩,?_⟩
  exact(((Fine.refl w Z).set (.inl hZ) (j*6) (O J 0)).below hb).set (.inl (hf B (.inl rfl))) _ _
 ·have hr2:1<M.slots[j].refs:=by omega
  refine(b2e w B gS _ j cS _ _ _ _ _ m.box hj c0 (fz _) hr2 (by omega)).mono ?_
  rintro e w' ⟨rfl,rfl⟩
  have e1:Lt M j = { M with slots:=Dp M j (Ap M j - 1) }:=by simp[Lt,hl]
  rw[e1]
  have mt:=turned m hj (M.slots[j].refs - 1)
  rw[<- hrr] at mt ⊢
  exact⟨rfl,⟨_,_,_,_,_,_,_,_,mt,fun k hk=>.inl (hf k hk)⟩,(Fine.refl w Z).set (.inl hZ) _ _⟩
end
section
open Go.ChangeShapes Go.WideShapes Go.ChangeAt Go.RowKit Go.Joins Go.Deep
theorem Md(w:World)(q:Nat):Below w.heap.size w (w.drewN q):=⟨rfl,rfl,rfl,Nat.le_refl _,fun _ _=>rfl⟩
end
section
open Go.ChangeShapes Go.WideShapes Go.ChangeAt Go.RowKit Go.Joins Go.Maps
theorem Y4(aS aH aF aL:Option Addr)(nS nH nF nL cS cH cF cL:Nat)(now k a b t bk sl:Int)(w:World)(hn:nS<=9223372036854775807)(hh:nH<=9223372036854775807) :
  Calls Tryz.prog 143 #[.agg #[.slice aS nS cS,.slice aH nH cH,.slice aF nF cF,.slice aL nL cL,.int .i64 now],.agg #[.int .i64 k,.int .i64 a,.int .i64 b,.int .i64 t,.int .i64 bk,.int .i64 sl]] w fun e w'=>e=.returned (.int .i64 (Df nS nH ⟨k,a,b,t,bk,sl⟩))/\Below w.heap.size w w':=by
 have b0:Below w.heap.size w ((w.alloc (.cells #[.slice aS nS cS,.slice aH nH cH,.slice aF nF cF,.slice aL nL cL,.int .i64 now] 25)).alloc (.cells #[.int .i64 k,.int .i64 a,.int .i64 b,.int .i64 t,.int .i64 bk,.int .i64 sl] 32)):=below_alloc2 w _ _
 have hk:∀ W:World,Calls Tryz.prog 96 #[.agg #[.int .i64 a,.int .i64 b]] W fun e w'=>e=.returned (.int .i64 (if Ee a b then 0 else 3))/\Below W.heap.size W w':=fun W=>a2z a b W
 by_cases h13:k=1\/k=3
 ·rw[a6c h13]
  generalize (if Ee a b then (0:Int) else 3)=kv at *
  rcases h13 with rfl|rfl
  all_goals
   go_enter Tryz.func143,Tryz.ntmps143
   go_wp2_with (go_at_call 96;refine(hk _).mono ?_;rintro e w1 ⟨rfl,hb1⟩)
   go_ret
   exact⟨rfl,b0.trans (hb1.mono b0.size)⟩
 by_cases h2:k=2
 ·subst h2
  clear h13
  rw[Yc]
  cases hT:inB t 1 1000000
  ·rw[Bool.false_and,if_neg (by simp)]
   go_enter Tryz.func143,Tryz.ntmps143
   go_wp2_with (go_at_call 85;refine(Cm _ _ _ _).mono ?_;rintro e w1 ⟨rfl,rfl⟩)
   go_ret
   exact⟨rfl,b0⟩
  ·rw[Bool.true_and]
   generalize (if Ee a b then (0:Int) else 3)=kv at *
   go_enter Tryz.func143,Tryz.ntmps143
   go_wp2_with (first|(go_at_call 85;refine(Cm _ _ _ _).mono ?_;rintro e w1 ⟨rfl,rfl⟩)|(go_at_call 96;refine(hk _).mono ?_;rintro e w1 ⟨rfl,hb1⟩))
   go_ret
   exact⟨rfl,b0.trans (hb1.mono b0.size)⟩
 by_cases h45:k=4\/k=5
 ·rw[a9z h45]
  clear h13 h2
  have hc:∀ W:World,Calls Tryz.prog 97 #[.agg #[.slice aS nS cS,.slice aH nH cH,.slice aF nF cF,.slice aL nL cL,.int .i64 now],.int .i64 bk] W fun e w'=>e=.returned (.bool (inB bk 0 ((nH:Int) - 1)))/\Below W.heap.size W w':=fun W=>Hq aS aH aF aL nS nH nF nL cS cH cF cL now bk W hh
  cases hB:inB bk 0 ((nH:Int) - 1) <;> (rw[hB] at hc;rcases h45 with rfl|rfl)
  all_goals
   first|rw[if_pos rfl] | rw[if_neg (by simp)]
   go_enter Tryz.func143,Tryz.ntmps143
   go_wp2_with (go_at_call 97;refine(hc _).mono ?_;rintro e w1 ⟨rfl,hb1⟩)
   go_ret
   exact⟨rfl,b0.trans (hb1.mono b0.size)⟩
 by_cases h6:k=6
 ·subst h6
  clear h13 h2 h45
  rw[a0f]
  have hc:∀ W:World,Calls Tryz.prog 111 #[.agg #[.slice aS nS cS,.slice aH nH cH,.slice aF nF cF,.slice aL nL cL,.int .i64 now],.int .i64 sl] W fun e w'=>e=.returned (.bool (inB sl 0 ((nS:Int) - 1)))/\Below W.heap.size W w':=fun W=>Fz aS aH aF aL nS nH nF nL cS cH cF cL now sl W hn
  cases hB:inB sl 0 ((nS:Int) - 1) <;> rw[hB] at hc
  all_goals
   first|rw[if_pos rfl] | rw[if_neg (by simp)]
   go_enter Tryz.func143,Tryz.ntmps143
   go_wp2_with (go_at_call 111;refine(hc _).mono ?_;rintro e w1 ⟨rfl,hb1⟩)
   go_ret
   exact⟨rfl,b0.trans (hb1.mono b0.size)⟩
 have hno:k<1\/6<k:=by omega
 rw[b0a hno]
 have e1:(k==1)=false:=by rw[beq_eq_false_iff_ne];omega
 have e2:(k==2)=false:=by rw[beq_eq_false_iff_ne];omega
 have e3:(k==3)=false:=by rw[beq_eq_false_iff_ne];omega
 have e4:(k==4)=false:=by rw[beq_eq_false_iff_ne];omega
 have e5:(k==5)=false:=by rw[beq_eq_false_iff_ne];omega
 have e6:(k==6)=false:=by rw[beq_eq_false_iff_ne];omega
 clear h13 h2 h45 h6 hno
 go_enter Tryz.func143,Tryz.ntmps143
 go_wp2
 go_ret
 exact⟨rfl,b0⟩
theorem plainElem_int_inv{H:Type}{v:Value}{z:DataW H × List MemPlace}(h:plainElem Tryz.prog 36 v=some z):∃ x,v=.int .i64 x/\z=(.lit (.int .i64 x),[]):=by
 unfold plainElem at h
 rw[Tryz.underlying36] at h
 cases v <;> simp at h
 obtain⟨⟨rfl,_⟩,h⟩:=h
 exact⟨_,rfl,h.symm⟩
theorem frObj(f:Fr)(aK:Option Addr)(cK:Nat):∃ o:Obj,o=.cells #[.int .i64 f.c.kind,.int .i64 f.c.a,.int .i64 f.c.b,.int .i64 f.c.time,.int .i64 f.c.bk,.int .i64 f.c.slot,.int .i64 f.pl,.int .i64 f.cur,.int .i64 f.prev,.int .i64 f.slot,.int .i64 f.n,.slice aK f.keys.length cK,.bool f.done,.int .i64 f.e] 47:=⟨_,rfl⟩
end
end Go.Proofs.YthhgoenomehobaaGreat.mm
