/- Parts. -/
import Derived.Test.YthhgoenomehobaaGreatF04
namespace Go.Proofs.YthhgoenomehobaaGreat.mm
set_option maxRecDepth 100000
set_option linter.unusedVariables false
section
structure Yt (m : Mm) (B : Nat->Prop) (P : Mm->Prop) : Prop where
 same : P m
 lock : ∀ b (v : Int),(-1<=v/\v<=4)->P (G7 m b v)
 put : ∀ s,isSl m s = true->1 + mapd m s<=Bd m s->P (putN m s)
 hold : ∀ s,isSl m s = true->0 < Bd m s->Bd m s < 1000->P (X5 m s)
 take : ∀ ka kb u,keyB ka kb = true->inB u 0 2000000 = true->0 < m.free.length->P (Ho m ka kb u)
 link : ∀ s b,B b->b < m.heads.length->isSl m s = true->s ∉ allC m->Bd m s ≠ 0->hasK m (allC m) (keyAt m s) = false->ownB m s = b->P (Ia m s b)
 cut : ∀ b l1 a l2,B b->b < m.heads.length->chL m b = l1 ++ a :: l2->P (cutM m b (Fb l1) a)
section
variable {w : Wd} {i : Nat} {t : Tk}
theorem Zj {P : Mm->Prop} (I : WInv w) (C : Yt w.m (fun b => b = bkN w.m t.f/\hasL t.f) P) (hi : w.ts[i]? = some t) (hb : t.busy = true) (hk : t.f.c.kind = 1) : P (lkM w.m t.f)  :=by
 obtain ⟨h0,hlock,hput,hhold,htake,hlink,hcut⟩:=C
 have htm:=List.mem_of_getElem? hi
 have F:=I.fi t htm hb
 have hput : isSl w.m t.f.slot = true->P (putN w.m t.f.slot):=fun hs =>
   hput _ hs (I.D7 htm hb (by rw [C9 (by omega)]; exact decide_eq_true (Aw.1 hs).1) hs)
 unfold lkM H6 Cc holdN
 split
 · split
   · rename_i ha
     split
     · rename_i hc
       have:=Jm.1 hc
       exact hhold _ (Fp ha) this.1 this.2
     · exact h0
   · exact h0
 · split
   · split
     · exact hput (by assumption)
     · exact h0
   · split
     · split
       · exact hput (by assumption)
       · exact h0
     · exact h0
theorem a0o {P : Mm->Prop} (I : WInv w) (C : Yt w.m (fun b => b = bkN w.m t.f/\hasL t.f) P) (hi : w.ts[i]? = some t) (hb : t.busy = true) (hk : t.f.c.kind = 2) : P (adM i w.m t.f)  :=by
 obtain ⟨h0,hlock,hput,hhold,htake,hlink,hcut⟩:=C
 have htm:=List.mem_of_getElem? hi
 have F:=I.fi t htm hb
 have hbk:=I.bk hi hb
 obtain ⟨k1,k2,k3⟩:=Pz hk F.fit.call
 have S:=F.add hk
 have htk:=I.task hi
 unfold adM G8 Cf Gv L9 D8
 split
 · split
   · exact h0
   · exact htake _ _ _ k1 (Xl I.okc.ok k2) (by omega)
 split
 · split
   · exact hlock _ _ htk
   · exact h0
 split
 · rename_i p
   have ha : adds t.f:=⟨hk,by omega,by omega⟩
   obtain ⟨x1,x2,x3⟩:=S.2.2.1 ha.2.1 ha.2.2
   rw [if_pos x1]
   have hnk:=X9 I.okc (by omega) k1 (S.2.2.2.2.2.1 p)
   have hob : ownB w.m t.f.slot = bkN w.m t.f:=by
     have x3':=x3
     unfold keyAt Key at x3'
     simp only [Prod.mk.injEq] at x3'
     unfold ownB bkN
     rw [x3'.1,x3'.2,bk_of I.okc.ok (by omega) k1]
   exact hlink _ _ ⟨rfl,.inl ⟨hk,by omega⟩⟩ hbk.1 x1 x2 (I.Ku htm hb ha).2.1 (by rw [x3]; exact hnk) hob
 split
 · rename_i p
   have ha : adds t.f:=⟨hk,by omega,by omega⟩
   obtain ⟨x1,x2,x3⟩:=S.2.2.1 ha.2.1 ha.2.2
   rw [if_pos x1]
   exact hput _ x1 (I.D7 htm hb (Ci ha (Aw.1 x1).1) x1)
 split
 · split
   · exact hlock _ _ (by omega)
   · exact h0
 · exact h0
theorem Z4 {P : Mm->Prop} (I : WInv w) (C : Yt w.m (fun b => b = bkN w.m t.f/\hasL t.f) P) (hi : w.ts[i]? = some t) (hb : t.busy = true) (hk : t.f.c.kind = 3) : P (drM i w.m t.f)  :=by
 obtain ⟨h0,hlock,hput,hhold,htake,hlink,hcut⟩:=C
 have htm:=List.mem_of_getElem? hi
 have F:=I.fi t htm hb
 have hbk:=I.bk hi hb
 have htk:=I.task hi
 obtain ⟨a1,a2,a3,a4,a5,a6⟩:=F.drop hk
 unfold drM Cf Ej D8 Ez
 split
 · split
   · exact hlock _ _ htk
   · exact h0
 split
 · rename_i p
   obtain ⟨l1,a,l2,R,_,q⟩:=a5 p
   obtain ⟨hat,hcur⟩:=Cb I.okc hbk.1 R
   rw [if_pos (hat.2 ⟨a,l2,rfl⟩),q,hcur a l2 rfl]
   exact hcut _ _ _ _ ⟨rfl,.inr (.inl ⟨hk,by omega,by omega⟩)⟩ hbk.1 R.1
 split
 · split
   · exact hlock _ _ (by omega)
   · exact h0
 split
 · split
   · rename_i hs
     exact hput _ hs (I.D7 htm hb (by rw [C9 (by omega)]; exact decide_eq_true (Aw.1 hs).1) hs)
   · exact h0
 · exact h0
theorem Xk {P : Mm->Prop} (I : WInv w) (C : Yt w.m (fun b => b = bkN w.m t.f/\hasL t.f) P) (hi : w.ts[i]? = some t) (hb : t.busy = true) (hk : t.f.c.kind = 4\/t.f.c.kind = 5) : P (swM i w.m t.f)  :=by
 obtain ⟨h0,hlock,hput,hhold,htake,hlink,hcut⟩:=C
 have htm:=List.mem_of_getElem? hi
 have F:=I.fi t htm hb
 have hbk:=I.bk hi hb
 have htk:=I.task hi
 have hk2 : t.f.c.kind ≠ 2:=by omega
 obtain ⟨a1,a2,a3,a4,a5,a6⟩:=F.sweep hk
 unfold swM Cf Ej D8 Ez
 split
 · split
   · exact hlock _ _ htk
   · exact h0
 split
 · rename_i p
   obtain ⟨l1,a,l2,R,q⟩:=a5 (.inr p)
   obtain ⟨hat,hcur⟩:=Cb I.okc hbk.1 R
   rw [if_pos (hat.2 ⟨a,l2,rfl⟩),q,hcur a l2 rfl]
   exact hcut _ _ _ _ ⟨rfl,.inr (.inr ⟨hk,by rw [p]; decide⟩)⟩ hbk.1 R.1
 split
 · split
   · rename_i hs
     exact hput _ hs (I.D7 htm hb (by rw [C9 hk2]; exact decide_eq_true (Aw.1 hs).1) hs)
   · exact h0
 split
 · split
   · exact hlock _ _ ⟨Int.le_refl _,by decide⟩
   · exact h0
 · exact h0
theorem Ur {P : Mm->Prop} (I : WInv w) (C : Yt w.m (fun b => b = bkN w.m t.f/\hasL t.f) P) (hi : w.ts[i]? = some t) (hb : t.busy = true) : P (stepT w.m i t).1  :=by
 have C':=C
 obtain ⟨h0,hlock,hput,hhold,htake,hlink,hcut⟩:=C'
 have htm:=List.mem_of_getElem? hi
 have F:=I.fi t htm hb
 have hk:=F.kind
 unfold stepT
 by_cases h1 : t.f.c.kind = 1
 · rw [if_pos h1]; exact Zj I C hi hb h1
 rw [if_neg h1]
 by_cases h2 : t.f.c.kind = 2
 · rw [if_pos h2]; exact a0o I C hi hb h2
 rw [if_neg h2]
 by_cases h3 : t.f.c.kind = 3
 · rw [if_pos h3]; exact Z4 I C hi hb h3
 rw [if_neg h3]
 by_cases h6 : t.f.c.kind = 6
 · have hm:=(F.leave h6).2
   rw [if_pos h6,if_pos hm]
   exact hput _ ((I.held t htm).2 _ hm) (I.a1u htm hm)
 rw [if_neg h6]
 exact Xk I C hi hb (by omega)
end
end
section
def nx (m : Mm) (y : Int) : Int:=(Aa m y).next
structure Calm (m m' : Mm) : Prop where
 nh : m'.heads.length = m.heads.length
 now : m.now<=m'.now
 next : ∀ y,nx m' y = nx m y
 chs : ∀ c,c < m.heads.length->chL m' c = chL m c
 inn : ∀ y,(Aa m' y).inn = true->(Aa m y).inn = true/\keyAt m' y = keyAt m y/\(Aa m' y).unt = (Aa m y).unt
 keep : ∀ y,y ∈ allC m->keyAt m' y = keyAt m y
structure Lkd (m m' : Mm) (s : Int) (c : Nat) : Prop where
 nh : m'.heads.length = m.heads.length
 now : m.now<=m'.now
 lt : c < m.heads.length
 s0 : 0<=s
 off : s ∉ allC m
 at_ : chL m' c = s :: chL m c
 else_ : ∀ d,d < m.heads.length->d ≠ c->chL m' d = chL m d
 other : ∀ y : Int,y.toNat ≠ s.toNat->Aa m' y = Aa m y
 next : nx m' s = ptr c (chL m c)
 key : ∀ y,keyAt m' y = keyAt m y
structure Cutd (m m' : Mm) (c : Nat) (l1 : List Int) (a : Int) (l2 : List Int) : Prop where
 nh : m'.heads.length = m.heads.length
 now : m.now<=m'.now
 lt : c < m.heads.length
 is : chL m c = l1 ++ a :: l2
 at_ : chL m' c = l1 ++ l2
 else_ : ∀ d,d < m.heads.length->d ≠ c->chL m' d = chL m d
 key : ∀ y,keyAt m' y = keyAt m y
 unt : ∀ y,(Aa m' y).unt = (Aa m y).unt
 inn : ∀ y,(Aa m' y).inn = (Aa m y).inn
 next : ∀ y : Int,(0 < Fb l1->y.toNat ≠ (Fb l1 - 1).toNat)->nx m' y = nx m y
 jump : 0 < Fb l1->nx m' (Fb l1 - 1) = nx m a
def Mv (m m' : Mm) : Prop:=Calm m m'\/(∃ s c,Lkd m m' s c)\/∃ c l1 a l2,Cutd m m' c l1 a l2
theorem Uw {m m' : Mm} {b : Nat} {s r : Int} {F : List Int} {d : Int->Int} (hs : isSl m s = true) (e : m' = { m with slots:=Dy m s r,free:=F }) (E : Eff m m' b (chL m b) d) : Calm m m':=by
 have hs5 : ∀ x : Int,Aa m' x = if x.toNat = s.toNat then { Aa m s with refs:=r } else Aa m x:=fun x => by
   rw [e]; exact Iy hs rfl x
 have hsx : ∀ x : Int,x.toNat = s.toNat->Aa m x = Aa m s:=fun x hx => by unfold Aa; rw [hx]
 refine ⟨E.nh,by rw [E.now]; omega,fun y => ?_,fun c hc => ?_,fun y hy => ?_,fun y hy => ?_⟩
 · unfold nx; rw [hs5]; split
   · rename_i e; rw [hsx y e]
   · rfl
 · by_cases e : c = b
   · rw [e]; exact E.at_
   · exact E.else_ c hc e
 · rw [hs5] at hy ⊢
   unfold keyAt
   rw [hs5]
   split
   · rename_i e; rw [if_pos e] at hy; rw [hsx y e]; exact ⟨hy,rfl,rfl⟩
   · rename_i e; rw [if_neg e] at hy; exact ⟨hy,rfl,rfl⟩
 · unfold keyAt; rw [hs5]; split
   · rename_i e; rw [hsx y e]
   · rfl
theorem mv_cases {w : Wd} {B : Nat->Prop} (I : WInv w) : Yt w.m B (Mv w.m):=by
 have h0 : 0 < w.m.heads.length:=by have:=I.okc.ok.nh; omega
 refine ⟨.inl ?_,fun b v hv => .inl ?_,fun s hs hr => ?_,fun s hs h1 h2 => .inl ?_,fun ka kb u hk hu hF => .inl ?_,fun s b _ hb hs hoff hr hk ho => .inr (.inl ⟨s,b,?_⟩),fun b l1 a l2 _ hb e => .inr (.inr ⟨b,l1,a,l2,?_⟩)⟩
 · exact ⟨rfl,Int.le_refl _,fun _ => rfl,fun _ _ => rfl,fun _ h => ⟨h,rfl,rfl⟩,fun _ _ => rfl⟩
 · exact ⟨rfl,Int.le_refl _,fun _ => rfl,fun _ _ => rfl,fun _ h => ⟨h,rfl,rfl⟩,fun _ _ => rfl⟩
 · have hmp:=Gg w.m s
   have hE:=Ic I.okc 0 hs (by omega) (fun hm => by have:=G6 hm; omega)
   have he : putN w.m s = { w.m with slots:=Dy w.m s (Bd w.m s - 1),free:=if Bd w.m s = 1 then w.m.free ++ [s] else w.m.free }:=by
     unfold putN; rw [if_neg (by omega)]; rfl
   exact .inl (Uw hs he hE)
 · exact Uw hs rfl (P9 I.okc 0 hs h1 h2)
 · obtain ⟨hE,hoff,hsl,hr0,hky,hun⟩:=Py I.okc 0 hk hu hF
   have hs1 : ∀ x : Int,Aa (Ho w.m ka kb u) x = if x.toNat = (Ec w.m).toNat then ⟨1,ka,kb,u,false,(Aa w.m (Ec w.m)).next⟩ else Aa w.m x:=fun x => Iy hsl rfl x
   have hsx : ∀ x : Int,x.toNat = (Ec w.m).toNat->Aa w.m x = Aa w.m (Ec w.m):=fun x hx => by unfold Aa; rw [hx]
   refine ⟨hE.nh,Int.le_refl _,fun y => ?_,fun c hc => ?_,fun y hy => ?_,fun y hy => ?_⟩
   · unfold nx; rw [hs1]; split
     · rename_i e; rw [hsx y e]
     · rfl
   · by_cases e : c = 0
     · rw [e]; exact hE.at_
     · exact hE.else_ c hc e
   · rw [hs1] at hy
     split at hy
     · cases hy
     · rename_i e
       unfold keyAt
       rw [hs1,if_neg e]
       exact ⟨hy,rfl,rfl⟩
   · obtain ⟨c,hc,hm⟩:=Be.1 hy
     exact (hE.key y (Aw.2 (I.okc.Il y hy)) (I.okc.held c hc y hm).1).1
 · have hE:=Po I.okc hs hr hk ho
   have L:=a2h I.okc hs hr hk
   have e : G9 w.m s = Ia w.m s b:=by unfold G9 Ia; rw [ho]
   rw [e,ho] at L
   have hs0:=(Aw.1 hs).1
   have hss : ∀ x : Int,Aa (Ia w.m s b) x = if x.toNat = s.toNat then { Aa w.m s with next:=Aq w.m b,inn:=true } else Aa w.m x:=fun x => by
     obtain ⟨j,rfl,hj⟩:=(Gp w.m s).1 hs
     have:=O8 (M:=w.m) (S:=w.m.slots.set j { Aa w.m j with next:=Aq w.m b,inn:=true }) (H:=w.m.heads.set b ((j : Int) + 1)) hj rfl x
     rw [Int.toNat_natCast]
     exact this
   refine ⟨hE.nh,Int.le_refl _,hb,hs0,hoff,hE.at_,hE.else_,fun y hy => by rw [hss,if_neg hy],?_,L.key⟩
   unfold nx
   rw [hss,if_pos rfl]
   exact I.okc.Hw hb
 · have hE:=Nz I.okc hb e
   have hk:=a0z w.m b (Fb l1) a
   have hkk : ∀ y,keyAt (cutM w.m b (Fb l1) a) y = keyAt w.m y:=fun y => by
     have:=hk.slot y.toNat
     unfold keyAt Aa
     rw [this.1,this.2.1]
   refine ⟨hE.nh,by rw [hE.now]; omega,hb,e,hE.at_,hE.else_,hkk,fun y => (hk.slot y.toNat).2.2.1,fun y => (hk.slot y.toNat).2.2.2,fun y hy => ?_,fun hp => ?_⟩
   · unfold nx; rw [Zy hy]
   · have hm:=Vg hp
     have hsl:=I.okc.slots hb (Fb l1 - 1) (by rw [e]; simp [hm])
     unfold nx cutM
     rw [if_pos hp]
     unfold Aa
     dsimp only
     rw [Ll,if_pos ⟨rfl,by omega⟩]
end
section
theorem next_in {m : Mm} (hM : OkC m) {y : Int} (hy : y ∈ allC m) (h : 0 < nx m y) : nx m y - 1 ∈ allC m:=by
 obtain ⟨c,hc,hm⟩:=Be.1 hy
 obtain ⟨l1,l2,e⟩:=List.append_of_mem hm
 have h1:=hM.Ey hc e
 have h2 : nx m y = ptr c l2:=h1
 rw [h2] at h ⊢
 cases l2 with
 | nil => exact absurd h (by show ¬ (0 : Int) < -1 - (c : Int); omega)
 | cons z l2 =>
   have : ptr c (z :: l2) - 1 = z:=by show z + 1 - 1 = z; omega
   rw [this]
   exact Be.2 ⟨c,hc,by rw [e]; simp⟩
section
variable {H : List Mm} {m m' : Mm} {f : Fr}
end
end
section
section
variable {w : Wd} {G : List (List Mm)} {i : Nat} {t : Tk}
theorem Tz (m : Mm) (i : Nat) (t : Tk) : (stepT m i t).2.f.c = t.f.c:=by
 unfold stepT
 split
 · exact lkF_c _ _
 split
 · exact adF_c _ _
 split
 · exact drF_c _ _
 split
 · rfl
 · exact swF_c _ _
end
end
section
structure Pst where
 task : Int
 c : Cl
 fro : Nat
 to : Nat
 e : Int
 slot : Int
 n : Int
 keys : List (Int × Int)
def Uj (w : Wd) (x : Pk) : Wd:=if doE w x = 0 then doW w x else w
def Kd (w : Wd) (x : Pk) : Prop :=
  (x.tick = true ∧ w.m.now ≠ 1000000 ∧ doW w x = ⟨{ w.m with now:=w.m.now + 1 },w.ts⟩) ∨
  (x.tick = false ∧ x.step = true ∧ (0<=x.task/\x.task < w.ts.length) ∧ w.ts[x.task.toNat]? = some (tkAt w x) ∧ (tkAt w x).busy = true ∧ doW w x = ⟨(stepT w.m x.task.toNat (tkAt w x)).1,w.ts.set x.task.toNat (stepT w.m x.task.toNat (tkAt w x)).2⟩) ∨
  (x.tick = false ∧ x.step = false ∧ (0<=x.task/\x.task < w.ts.length) ∧ w.ts[x.task.toNat]? = some (tkAt w x) ∧ (tkAt w x).busy = false ∧ Eb w.m.slots.length w.m.heads.length x.c = 0 ∧ (x.c.kind = 1->(tkAt w x).held.length ≠ 100) ∧ (x.c.kind = 6->x.c.slot ∈ (tkAt w x).held) ∧ doW w x = ⟨w.m,w.ts.set x.task.toNat ⟨true,newF x.c,(tkAt w x).held⟩⟩)
theorem Kd.tick {w : Wd} {x : Pk} (h : x.tick = true) (hn : w.m.now ≠ 1000000) (e : doW w x = ⟨{ w.m with now:=w.m.now + 1 },w.ts⟩) : Kd w x := .inl ⟨h,hn,e⟩
theorem Kd.step {w : Wd} {x : Pk} (h : x.tick = false) (hs : x.step = true) (hr : 0<=x.task/\x.task < w.ts.length) (hi : w.ts[x.task.toNat]? = some (tkAt w x)) (hb : (tkAt w x).busy = true) (e : doW w x = ⟨(stepT w.m x.task.toNat (tkAt w x)).1,w.ts.set x.task.toNat (stepT w.m x.task.toNat (tkAt w x)).2⟩) : Kd w x := .inr (.inl ⟨h,hs,hr,hi,hb,e⟩)
theorem Kd.begin {w : Wd} {x : Pk} (h : x.tick = false) (hs : x.step = false) (hr : 0<=x.task/\x.task < w.ts.length) (hi : w.ts[x.task.toNat]? = some (tkAt w x)) (hb : (tkAt w x).busy = false) (hc : Eb w.m.slots.length w.m.heads.length x.c = 0) (h1 : x.c.kind = 1->(tkAt w x).held.length ≠ 100) (h6 : x.c.kind = 6->x.c.slot ∈ (tkAt w x).held) (e : doW w x = ⟨w.m,w.ts.set x.task.toNat ⟨true,newF x.c,(tkAt w x).held⟩⟩) : Kd w x := .inr (.inr ⟨h,hs,hr,hi,hb,hc,h1,h6,e⟩)
theorem Kd.rule {w : Wd} {x : Pk} {motive : Kd w x -> Prop} (tick : ∀ (h : x.tick = true) (hn : w.m.now ≠ 1000000) (e : doW w x = ⟨{ w.m with now:=w.m.now + 1 },w.ts⟩),motive (Kd.tick h hn e)) (step : ∀ (h : x.tick = false) (hs : x.step = true) (hr : 0<=x.task/\x.task < w.ts.length) (hi : w.ts[x.task.toNat]? = some (tkAt w x)) (hb : (tkAt w x).busy = true) (e : doW w x = ⟨(stepT w.m x.task.toNat (tkAt w x)).1,w.ts.set x.task.toNat (stepT w.m x.task.toNat (tkAt w x)).2⟩),motive (Kd.step h hs hr hi hb e)) (begin : ∀ (h : x.tick = false) (hs : x.step = false) (hr : 0<=x.task/\x.task < w.ts.length) (hi : w.ts[x.task.toNat]? = some (tkAt w x)) (hb : (tkAt w x).busy = false) (hc : Eb w.m.slots.length w.m.heads.length x.c = 0) (h1 : x.c.kind = 1->(tkAt w x).held.length ≠ 100) (h6 : x.c.kind = 6->x.c.slot ∈ (tkAt w x).held) (e : doW w x = ⟨w.m,w.ts.set x.task.toNat ⟨true,newF x.c,(tkAt w x).held⟩⟩),motive (Kd.begin h hs hr hi hb hc h1 h6 e)) (k : Kd w x) : motive k := by
  rcases k with ⟨h,hn,e⟩ | ⟨h,hs,hr,hi,hb,e⟩ | ⟨h,hs,hr,hi,hb,hc,h1,h6,e⟩
  · exact tick h hn e
  · exact step h hs hr hi hb e
  · exact begin h hs hr hi hb hc h1 h6 e
theorem a3c {w : Wd} {x : Pk} (h : doE w x = 0) : Kd w x:=by
 unfold doE at h
 by_cases ht : x.tick = true
 · rw [if_pos ht] at h
   by_cases hn : w.m.now = 1000000
   · rw [if_pos hn] at h; omega
   · exact .tick ht hn (by unfold doW; rw [if_pos ht])
 rw [if_neg ht] at h
 have ht' : x.tick = false:=by simpa using ht
 by_cases hr : 0<=x.task/\x.task < w.ts.length
 · rw [if_neg (by simpa using hr)] at h
   have hi : w.ts[x.task.toNat]? = some (tkAt w x):=by
     unfold tkAt
     have : x.task.toNat < w.ts.length:=by omega
     rw [List.getD_eq_getElem?_getD,List.getElem?_eq_getElem this]
     rfl
   by_cases hs : x.step = true
   · rw [if_pos hs] at h
     by_cases hb : (tkAt w x).busy = true
     · exact .step ht' hs hr hi hb (by unfold doW; rw [if_neg ht,if_pos hs])
     · rw [if_neg hb] at h; omega
   · rw [if_neg hs] at h
     unfold Xq at h
     by_cases hb : (tkAt w x).busy = true
     · rw [if_pos hb] at h; omega
     rw [if_neg hb] at h
     by_cases hc : Eb w.m.slots.length w.m.heads.length x.c = 0
     · rw [if_neg (by simpa using hc)] at h
       by_cases h1 : x.c.kind = 1/\(tkAt w x).held.length = 100
       · rw [if_pos h1] at h; omega
       rw [if_neg h1] at h
       by_cases h6 : x.c.kind = 6/\x.c.slot ∉ (tkAt w x).held
       · rw [if_pos h6] at h; omega
       refine .begin ht' (by simpa using hs) hr hi (by simpa using hb) hc (fun h => fun e => h1 ⟨h,e⟩) (fun h => ?_) (by unfold doW; rw [if_neg ht,if_neg hs])
       by_cases hm : x.c.slot ∈ (tkAt w x).held
       · exact hm
       · exact (h6 ⟨h,hm⟩).elim
     · rw [if_pos hc] at h; exact (hc h).elim
 · rw [if_pos (by simpa using hr)] at h; omega
structure Rs where
 w : Wd
 said : List Int
 past : List Pst
 beg : List Nat
def overP (n : Nat) (x : Pk) (b : Nat) (t : Tk) : Pst:=⟨x.task,t.f.c,b,n,t.f.e,t.f.slot,t.f.n,t.f.keys⟩
def Qz (n : Nat) (s : Rs) (x : Pk) : Rs :=
 if doE s.w x = 0 then
   (if x.tick then ⟨doW s.w x,s.said ++ [0],s.past,s.beg⟩
    else if x.step then
      (if ((doW s.w x).ts.getD x.task.toNat idle).busy then ⟨doW s.w x,s.said ++ [0],s.past,s.beg⟩
       else ⟨doW s.w x,s.said ++ [0],s.past ++ [overP n x (s.beg.getD x.task.toNat 0) ((doW s.w x).ts.getD x.task.toNat idle)],s.beg⟩)
    else ⟨doW s.w x,s.said ++ [0],s.past,s.beg.set x.task.toNat n⟩)
 else ⟨s.w,s.said ++ [doE s.w x],s.past,s.beg⟩
def runR : Nat->Rs->List Pk->Rs
 | _,s,[] => s
 | n,s,x :: l => runR (n + 1) (Qz n s x) l
def rs0 (w : Wd) : Rs:=⟨w,[],[],List.replicate w.ts.length 0⟩
theorem stepR_w (n : Nat) (s : Rs) (x : Pk) : (Qz n s x).w = Uj s.w x:=by
 unfold Qz Uj
 by_cases h : doE s.w x = 0
 · rw [if_pos h,if_pos h]
   repeat' split
   all_goals rfl
 · rw [if_neg h,if_neg h]
end
section
structure Acy (m : Mm) (S : List Int) : Prop where
 nodup : S.Nodup
 all : ∀ y,y ∈ S ↔ isSl m y = true/\y ∉ allC m
 down : ∀ p y q,S = p ++ y :: q->0 < nx m y->nx m y - 1 ∈ allC m\/nx m y - 1 ∈ p
theorem acy_new (many buckets : Nat) : Acy (newM many buckets) ((List.range many).map fun (a : Nat) => (a : Int)):=by
 have hs : (newM many buckets).slots.length = many:=by simp [newM]
 refine ⟨?_,fun y => ?_,fun p y q e h => ?_⟩
 · refine List.Pairwise.map _ (fun a b hab => ?_) List.nodup_range
   omega
 · rw [X8,Aw,hs,List.mem_map]
   constructor
   · rintro ⟨j,hj,rfl⟩
     have:=List.mem_range.1 hj
     exact ⟨⟨by omega,by omega⟩,by simp⟩
   · rintro ⟨⟨h1,h2⟩,_⟩
     exact ⟨y.toNat,List.mem_range.2 (by omega),by omega⟩
 · have e0 : nx (newM many buckets) y = 0:=by
     show ((List.replicate many sl0).getD _ sl0).next = 0
     rw [List.getD_eq_getElem?_getD,List.getElem?_replicate]
     split <;> rfl
   omega
theorem Qr {S : List Int} (hn : S.Nodup) {s : Int} {p : List Int} {y : Int} {q : List Int} (e : S.erase s = p ++ y :: q) : ∃ p' q',S = p' ++ y :: q'/\∀ z ∈ p',z = s\/z ∈ p:=by
 by_cases hs : s ∈ S
 · obtain ⟨a,b,rfl⟩:=List.append_of_mem hs
   have hna : s ∉ a:=by
     rw [List.nodup_append] at hn
     exact fun h => hn.2.2 s h s (by simp) rfl
   have he : (a ++ s :: b).erase s = a ++ b:=by
     rw [List.erase_append_right _ hna,List.erase_cons_head]
   rw [he] at e
   rcases List.append_eq_append_iff.1 e with ⟨c,h1,h2⟩ | ⟨c,h1,h2⟩
   · -- p = a ++ c,b = c ++ y :: q
     refine ⟨a ++ s :: c,q,by rw [h2]; simp,fun z hz => ?_⟩
     simp only [List.mem_append,List.mem_cons] at hz
     rcases hz with h | h | h
     · exact .inr (by rw [h1]; simp [h])
     · exact .inl h
     · exact .inr (by rw [h1]; simp [h])
   · -- a = p ++ c,y :: q = c ++ b
     cases c with
     | nil =>
       simp only [List.nil_append] at h2
       refine ⟨a ++ [s],q,by rw [<- h2]; simp,fun z hz => ?_⟩
       simp only [List.mem_append,List.mem_singleton] at hz
       rcases hz with h | h
       · exact .inr (by rw [h1] at h; simpa using h)
       · exact .inl h
     | cons x c =>
       simp only [List.cons_append,List.cons.injEq] at h2
       refine ⟨p,c ++ s :: b,by rw [h1,h2.1]; simp,fun z hz => .inr hz⟩
 · rw [List.erase_of_not_mem hs] at e
   exact ⟨p,q,e,fun z hz => .inr hz⟩
theorem acy_mv {m m' : Mm} {S : List Int} (A : Acy m S) (hM : OkC m) (hM' : OkC m') (hn : m'.slots.length = m.slots.length) (V : Mv m m') : ∃ S',Acy m' S':=by
 have hsl : ∀ y,isSl m' y = isSl m y:=fun y => by unfold isSl; rw [hn]
 rcases V with C | ⟨s,c,C⟩ | ⟨c,l1,d,l2,C⟩
 · have hA : ∀ y,y ∈ allC m' ↔ y ∈ allC m:=fun y => by
     rw [Be,Be]
     constructor
     · rintro ⟨b,hb,h⟩; rw [C.nh] at hb; exact ⟨b,hb,by rw [<- C.chs b hb]; exact h⟩
     · rintro ⟨b,hb,h⟩; exact ⟨b,by rw [C.nh]; exact hb,by rw [C.chs b hb]; exact h⟩
   refine ⟨S,A.nodup,fun y => by rw [hsl,hA]; exact A.all y,fun p y q e h => ?_⟩
   rw [C.next] at h ⊢
   rw [hA]
   exact A.down p y q e h
 · have hA : ∀ y,y ∈ allC m' ↔ y = s\/y ∈ allC m:=fun y => by
     rw [Be,Be]
     constructor
     · rintro ⟨b,hb,h⟩
       rw [C.nh] at hb
       by_cases e : b = c
       · subst e; rw [C.at_] at h
         rcases List.mem_cons.1 h with h | h
         · exact .inl h
         · exact .inr ⟨b,hb,h⟩
       · rw [C.else_ b hb e] at h; exact .inr ⟨b,hb,h⟩
     · rintro (rfl | ⟨b,hb,h⟩)
       · exact ⟨c,by rw [C.nh]; exact C.lt,by rw [C.at_]; simp⟩
       · by_cases e : b = c
         · subst e; exact ⟨b,by rw [C.nh]; exact hb,by rw [C.at_]; simp [h]⟩
         · exact ⟨b,by rw [C.nh]; exact hb,by rw [C.else_ b hb e]; exact h⟩
   refine ⟨S.erase s,A.nodup.erase s,fun y => ?_,fun p y q e h => ?_⟩
   · rw [A.nodup.mem_erase_iff,A.all,hsl,hA]
     constructor
     · rintro ⟨h1,h2,h3⟩; exact ⟨h2,fun h => h.elim h1 h3⟩
     · rintro ⟨h1,h2⟩; exact ⟨fun h => h2 (.inl h),h1,fun h => h2 (.inr h)⟩
   · obtain ⟨p',q',e',hp⟩:=Qr A.nodup e
     have hy : y ∈ S.erase s:=by rw [e]; simp
     have hy1:=(A.nodup.mem_erase_iff).1 hy
     have hy2:=(A.all y).1 hy1.2
     have h0:=(Aw.1 hy2.1).1
     have hne : y.toNat ≠ s.toNat:=fun e => hy1.1 (by have:=C.s0; omega)
     have en : nx m' y = nx m y:=by unfold nx; rw [C.other y hne]
     rw [en] at h ⊢
     rw [hA]
     rcases A.down p' y q' e' h with h1 | h1
     · exact .inl (.inr h1)
     · rcases hp _ h1 with h2 | h2
       · exact .inl (.inl h2)
       · exact .inr h2
 · have hnd:=hM.nodup C.lt
   rw [C.is,List.nodup_append,List.nodup_cons] at hnd
   have hdm : d ∈ allC m:=Be.2 ⟨c,C.lt,by rw [C.is]; simp⟩
   have hA : ∀ y,y ∈ allC m' ↔ y ∈ allC m/\y ≠ d:=fun y => by
     constructor
     · intro h
       obtain ⟨b,hb,h⟩:=Be.1 h
       rw [C.nh] at hb
       by_cases e : b = c
       · subst e; rw [C.at_] at h
         refine ⟨Be.2 ⟨b,hb,by rw [C.is]; rcases List.mem_append.1 h with h | h <;> simp [h]⟩,?_⟩
         rintro rfl
         rcases List.mem_append.1 h with h | h
         · exact hnd.2.2 y h y (by simp) rfl
         · exact hnd.2.1.1 h
       · rw [C.else_ b hb e] at h
         refine ⟨Be.2 ⟨b,hb,h⟩,?_⟩
         rintro rfl
         have h1:=(hM.held b hb y h).2.2
         have h2:=(hM.held c C.lt y (by rw [C.is]; simp)).2.2
         omega
     · rintro ⟨h,hne⟩
       obtain ⟨b,hb,h⟩:=Be.1 h
       by_cases e : b = c
       · subst e
         refine Be.2 ⟨b,by rw [C.nh]; exact hb,?_⟩
         rw [C.is] at h
         rw [C.at_]
         simp only [List.mem_append,List.mem_cons] at h ⊢
         rcases h with h | h | h
         · exact .inl h
         · exact (hne h).elim
         · exact .inr h
       · exact Be.2 ⟨b,by rw [C.nh]; exact hb,by rw [C.else_ b hb e]; exact h⟩
   have hdS : d ∉ S:=fun h => ((A.all d).1 h).2 hdm
   have hdsl:=Aw.2 (hM.Il d hdm)
   have keepn : ∀ y,isSl m y = true->y ∉ allC m'->nx m' y = nx m y:=fun y hy hn' => by
     refine C.next y fun hp e => hn' ?_
     have hl:=Vg hp
     have h0:=(Aw.1 hy).1
     have : y = Fb l1 - 1:=by omega
     rw [this]
     exact Be.2 ⟨c,by rw [C.nh]; exact C.lt,by rw [C.at_]; simp [hl]⟩
   refine ⟨d :: S,List.nodup_cons.2 ⟨hdS,A.nodup⟩,fun y => ?_,fun p y q e h => ?_⟩
   · rw [List.mem_cons,A.all,hsl,hA]
     constructor
     · rintro (rfl | ⟨h1,h2⟩)
       · exact ⟨hdsl,fun h => h.2 rfl⟩
       · exact ⟨h1,fun h => h2 h.1⟩
     · rintro ⟨h1,h2⟩
       by_cases ey : y = d
       · exact .inl ey
       · exact .inr ⟨h1,fun h => h2 ⟨h,ey⟩⟩
   · cases p with
     | nil =>
       simp only [List.nil_append,List.cons.injEq] at e
       obtain ⟨rfl,rfl⟩:=e
       left
       have hn' : d ∉ allC m':=fun h => ((hA d).1 h).2 rfl
       rw [keepn d hdsl hn'] at h ⊢
       have hnx : nx m d = ptr c l2:=hM.Ey C.lt C.is
       rw [hnx] at h ⊢
       cases l2 with
       | nil => exact absurd h (by show ¬ (0 : Int) < -1 - (c : Int); omega)
       | cons z l2 =>
         have : ptr c (z :: l2) - 1 = z:=by show z + 1 - 1 = z; omega
         rw [this]
         exact Be.2 ⟨c,by rw [C.nh]; exact C.lt,by rw [C.at_]; simp⟩
     | cons x p =>
       simp only [List.cons_append,List.cons.injEq] at e
       obtain ⟨rfl,e⟩:=e
       have hyS : y ∈ S:=by rw [e]; simp
       have hy2:=(A.all y).1 hyS
       have hn' : y ∉ allC m':=fun h => hy2.2 ((hA y).1 h).1
       rw [keepn y hy2.1 hn'] at h ⊢
       rcases A.down p y q e h with h1 | h1
       · by_cases ez : nx m y - 1 = d
         · exact .inr (by rw [ez]; simp)
         · exact .inl ((hA _).2 ⟨h1,ez⟩)
       · exact .inr (by simp [h1])
end
end Go.Proofs.YthhgoenomehobaaGreat.mm
