/- Parts. -/
import Derived.Test.YthhgoenomehobaaGreatE22
namespace Go.Proofs.YthhgoenomehobaaGreat.mm
set_option maxRecDepth 100000
set_option linter.unusedVariables false
open Go.Value renaming int → Vi, slice → Vs
open Go.IntKind renaming i64 → Qi
section
open Go.ChangeShapes Go.WideShapes Go.ChangeAt Go.RowKit Go.Joins Go.Deep Go.Sort
variable {Xb : Ex}
set_option maxHeartbeats 1600000 in
theorem adstep0 (t : Int) (M M' : Mm) (g : Fr) (c : Cl) (cur prev slot nn ee : Int) (keys : List (Int × Int)) (B lo : Nat) (aS aH aF aL : Option Addr) (cS cH cF cL : Nat) (aK : Option Addr) (cK : Nat) (w : World)
    (m : Mine Xb w B lo aS aH aF aL cS cH cF cL M) (HR : Hid (KRow w aK cK keys)) (HKy : Hid (g.keys = keys))
    (HP : Hid (∀ (W : World),Mine Xb W B lo aS aH aF aL cS cH cF cL M->KRow W aK cK keys->Calls Tryz.prog 172 #[.pointer (some ⟨B,0,none⟩),.agg #[Vi Qi c.kind,Vi Qi c.a,Vi Qi c.b,Vi Qi c.time,Vi Qi c.bk,Vi Qi c.slot,Vi Qi 0,Vi Qi cur,Vi Qi prev,Vi Qi slot,Vi Qi nn,Vs aK keys.length cK,.bool false,Vi Qi ee]] W fun e w' => Ret W w' e g aK cK/\Has Xb w' B lo (Up W (Foot B aS aH aF aL)) M'/\Fine W w' (Foot B aS aH aF aL))) :
    Calls Tryz.prog 159 #[.pointer (some ⟨B,0,none⟩),.agg #[Vi Qi c.kind,Vi Qi c.a,Vi Qi c.b,Vi Qi c.time,Vi Qi c.bk,Vi Qi c.slot,Vi Qi 0,Vi Qi cur,Vi Qi prev,Vi Qi slot,Vi Qi nn,Vs aK keys.length cK,.bool false,Vi Qi ee],Vi Qi t] w fun e w' => Ret w w' e g aK cK/\Has Xb w' B lo (Up w (Foot B aS aH aF aL)) M'/\Fine w w' (Foot B aS aH aF aL):=by
  obtain ⟨of,hof⟩ : ∃ o : Obj,o = .cells #[Vi Qi c.kind,Vi Qi c.a,Vi Qi c.b,Vi Qi c.time,Vi Qi c.bk,Vi Qi c.slot,Vi Qi 0,Vi Qi cur,Vi Qi prev,Vi Qi slot,Vi Qi nn,Vs aK keys.length cK,.bool false,Vi Qi ee] 47:=⟨_,rfl⟩
  obtain ⟨oz,hoz⟩ : ∃ o : Obj,o = a0e:=⟨_,rfl⟩
  have HE : Hid (Lk Xb w ((w.alloc of).alloc oz) B lo aS aH aF aL cS cH cF cL M ⟨c,0,cur,prev,slot,nn,keys,false,ee⟩ aK cK):=Lk.first m ⟨c,0,cur,prev,slot,nn,keys,false,ee⟩ aK cK hof hoz
  obtain ⟨f0,f1,f2,f3,f4,f5,f6,f7,f8,f9,f10,f11,f12,f13,ff,fs⟩:=a0a (show ((w.alloc of).alloc oz).heap[w.heap.size]? = some (.cells #[Vi Qi c.kind,Vi Qi c.a,Vi Qi c.b,Vi Qi c.time,Vi Qi c.bk,Vi Qi c.slot,Vi Qi 0,Vi Qi cur,Vi Qi prev,Vi Qi slot,Vi Qi nn,Vs aK keys.length cK,.bool false,Vi Qi ee] 47 (0,0)) from HE.out.fb)
  unfold a0e at hoz
  clear m
  go_enter Tryz.func159,Tryz.ntmps159
  go_wp2_with fail
  rw [<- hof,<- hoz]
  generalize (w.alloc of).alloc oz = W0 at *
  subst hof hoz
  have HE1 : Hid (Lk Xb w W0 B lo aS aH aF aL cS cH cF cL M ⟨c,0,cur,prev,slot,nn,keys,false,ee⟩ aK cK):=HE.out
  clear HE
  clear f0 f1 f2 f3 f4 f5 f6 f7 f8 f9 f10 f11 f12 f13 ff fs
  refine (HP.out _ HE1.out.m (HR.out.below HE1.out.bl)).mono ?_
  rintro e w2 ⟨⟨a2,c2,rfl,hr2,hl2,hd2⟩,hh2,hf2⟩
  have HK2 : Hid (KRow w2 a2 c2 keys/\∀ ad,a2 = some ad->aK = some ad\/w.heap.size + 2<=ad.block):=⟨HKy.out ▸ hr2,fun ad h => (hl2 ad h).imp id (fun h' => Nat.le_trans (lt_of_block HE1.out.zb) h')⟩
  have HD2 : Hid (g.done = false->a2 = aK/\c2 = cK):=hd2
  have HE2 : Hid (Lk2 Xb w w2 (Foot B aS aH aF aL) B lo M' ⟨c,0,cur,prev,slot,nn,keys,false,ee⟩ aK cK):=HE1.out.after hh2 hf2
  clear HE1 hh2 hf2 hr2 hl2 hd2
  obtain ⟨g0,g1,g2,g3,g4,g5,g6,g7,g8,g9,g10,g11,g12,g13,gf,gs⟩:=a0a HE2.out.zb
  go_wp2
  refine bodyPost_ret (v:=.agg #[Vi Qi g.c.kind,Vi Qi g.c.a,Vi Qi g.c.b,Vi Qi g.c.time,Vi Qi g.c.bk,Vi Qi g.c.slot,Vi Qi g.pl,Vi Qi g.cur,Vi Qi g.prev,Vi Qi g.slot,Vi Qi g.n,Vs a2 g.keys.length c2,.bool g.done,Vi Qi g.e]) (by simp [results,Tryz.results159,go_sem,g0,g1,g2,g3,g4,g5,g6,g7,g8,g9,g10,g11,g12,g13]) rfl ⟨⟨a2,c2,rfl,by rw [HKy.out]; exact a2j rfl HK2.out.1 HR.out HK2.out.2,(fun ad h => (HK2.out.2 ad h).imp id (fun h' => by omega)),HD2.out⟩,HE2.out.a0g⟩
set_option maxHeartbeats 1600000 in
theorem adstep1 (t : Int) (M M' : Mm) (g : Fr) (c : Cl) (cur prev slot nn ee : Int) (keys : List (Int × Int)) (B lo : Nat) (aS aH aF aL : Option Addr) (cS cH cF cL : Nat) (aK : Option Addr) (cK : Nat) (w : World)
    (m : Mine Xb w B lo aS aH aF aL cS cH cF cL M) (HR : Hid (KRow w aK cK keys)) (HKy : Hid (g.keys = keys))
    (HP : Hid (∀ (W : World),Mine Xb W B lo aS aH aF aL cS cH cF cL M->KRow W aK cK keys->Calls Tryz.prog 173 #[.pointer (some ⟨B,0,none⟩),.agg #[Vi Qi c.kind,Vi Qi c.a,Vi Qi c.b,Vi Qi c.time,Vi Qi c.bk,Vi Qi c.slot,Vi Qi 1,Vi Qi cur,Vi Qi prev,Vi Qi slot,Vi Qi nn,Vs aK keys.length cK,.bool false,Vi Qi ee],Vi Qi t] W fun e w' => Ret W w' e g aK cK/\Has Xb w' B lo (Up W (Foot B aS aH aF aL)) M'/\Fine W w' (Foot B aS aH aF aL))) :
    Calls Tryz.prog 159 #[.pointer (some ⟨B,0,none⟩),.agg #[Vi Qi c.kind,Vi Qi c.a,Vi Qi c.b,Vi Qi c.time,Vi Qi c.bk,Vi Qi c.slot,Vi Qi 1,Vi Qi cur,Vi Qi prev,Vi Qi slot,Vi Qi nn,Vs aK keys.length cK,.bool false,Vi Qi ee],Vi Qi t] w fun e w' => Ret w w' e g aK cK/\Has Xb w' B lo (Up w (Foot B aS aH aF aL)) M'/\Fine w w' (Foot B aS aH aF aL):=by
  obtain ⟨of,hof⟩ : ∃ o : Obj,o = .cells #[Vi Qi c.kind,Vi Qi c.a,Vi Qi c.b,Vi Qi c.time,Vi Qi c.bk,Vi Qi c.slot,Vi Qi 1,Vi Qi cur,Vi Qi prev,Vi Qi slot,Vi Qi nn,Vs aK keys.length cK,.bool false,Vi Qi ee] 47:=⟨_,rfl⟩
  obtain ⟨oz,hoz⟩ : ∃ o : Obj,o = a0e:=⟨_,rfl⟩
  have HE : Hid (Lk Xb w ((w.alloc of).alloc oz) B lo aS aH aF aL cS cH cF cL M ⟨c,1,cur,prev,slot,nn,keys,false,ee⟩ aK cK):=Lk.first m ⟨c,1,cur,prev,slot,nn,keys,false,ee⟩ aK cK hof hoz
  obtain ⟨f0,f1,f2,f3,f4,f5,f6,f7,f8,f9,f10,f11,f12,f13,ff,fs⟩:=a0a (show ((w.alloc of).alloc oz).heap[w.heap.size]? = some (.cells #[Vi Qi c.kind,Vi Qi c.a,Vi Qi c.b,Vi Qi c.time,Vi Qi c.bk,Vi Qi c.slot,Vi Qi 1,Vi Qi cur,Vi Qi prev,Vi Qi slot,Vi Qi nn,Vs aK keys.length cK,.bool false,Vi Qi ee] 47 (0,0)) from HE.out.fb)
  unfold a0e at hoz
  clear m
  go_enter Tryz.func159,Tryz.ntmps159
  go_wp2_with fail
  rw [<- hof,<- hoz]
  generalize (w.alloc of).alloc oz = W0 at *
  subst hof hoz
  have HE1 : Hid (Lk Xb w W0 B lo aS aH aF aL cS cH cF cL M ⟨c,1,cur,prev,slot,nn,keys,false,ee⟩ aK cK):=HE.out
  clear HE
  clear f0 f1 f2 f3 f4 f5 f6 f7 f8 f9 f10 f11 f12 f13 ff fs
  refine (HP.out _ HE1.out.m (HR.out.below HE1.out.bl)).mono ?_
  rintro e w2 ⟨⟨a2,c2,rfl,hr2,hl2,hd2⟩,hh2,hf2⟩
  have HK2 : Hid (KRow w2 a2 c2 keys/\∀ ad,a2 = some ad->aK = some ad\/w.heap.size + 2<=ad.block):=⟨HKy.out ▸ hr2,fun ad h => (hl2 ad h).imp id (fun h' => Nat.le_trans (lt_of_block HE1.out.zb) h')⟩
  have HD2 : Hid (g.done = false->a2 = aK/\c2 = cK):=hd2
  have HE2 : Hid (Lk2 Xb w w2 (Foot B aS aH aF aL) B lo M' ⟨c,1,cur,prev,slot,nn,keys,false,ee⟩ aK cK):=HE1.out.after hh2 hf2
  clear HE1 hh2 hf2 hr2 hl2 hd2
  obtain ⟨g0,g1,g2,g3,g4,g5,g6,g7,g8,g9,g10,g11,g12,g13,gf,gs⟩:=a0a HE2.out.zb
  go_wp2
  refine bodyPost_ret (v:=.agg #[Vi Qi g.c.kind,Vi Qi g.c.a,Vi Qi g.c.b,Vi Qi g.c.time,Vi Qi g.c.bk,Vi Qi g.c.slot,Vi Qi g.pl,Vi Qi g.cur,Vi Qi g.prev,Vi Qi g.slot,Vi Qi g.n,Vs a2 g.keys.length c2,.bool g.done,Vi Qi g.e]) (by simp [results,Tryz.results159,go_sem,g0,g1,g2,g3,g4,g5,g6,g7,g8,g9,g10,g11,g12,g13]) rfl ⟨⟨a2,c2,rfl,by rw [HKy.out]; exact a2j rfl HK2.out.1 HR.out HK2.out.2,(fun ad h => (HK2.out.2 ad h).imp id (fun h' => by omega)),HD2.out⟩,HE2.out.a0g⟩
set_option maxHeartbeats 1600000 in
theorem adstep2 (t : Int) (M M' : Mm) (g : Fr) (c : Cl) (cur prev slot nn ee : Int) (keys : List (Int × Int)) (B lo : Nat) (aS aH aF aL : Option Addr) (cS cH cF cL : Nat) (aK : Option Addr) (cK : Nat) (w : World)
    (m : Mine Xb w B lo aS aH aF aL cS cH cF cL M) (HR : Hid (KRow w aK cK keys)) (HKy : Hid (g.keys = keys))
    (HP : Hid (∀ (W : World),Mine Xb W B lo aS aH aF aL cS cH cF cL M->KRow W aK cK keys->Calls Tryz.prog 174 #[.pointer (some ⟨B,0,none⟩),.agg #[Vi Qi c.kind,Vi Qi c.a,Vi Qi c.b,Vi Qi c.time,Vi Qi c.bk,Vi Qi c.slot,Vi Qi 2,Vi Qi cur,Vi Qi prev,Vi Qi slot,Vi Qi nn,Vs aK keys.length cK,.bool false,Vi Qi ee]] W fun e w' => Ret W w' e g aK cK/\Has Xb w' B lo (Up W (Foot B aS aH aF aL)) M'/\Fine W w' (Foot B aS aH aF aL))) :
    Calls Tryz.prog 159 #[.pointer (some ⟨B,0,none⟩),.agg #[Vi Qi c.kind,Vi Qi c.a,Vi Qi c.b,Vi Qi c.time,Vi Qi c.bk,Vi Qi c.slot,Vi Qi 2,Vi Qi cur,Vi Qi prev,Vi Qi slot,Vi Qi nn,Vs aK keys.length cK,.bool false,Vi Qi ee],Vi Qi t] w fun e w' => Ret w w' e g aK cK/\Has Xb w' B lo (Up w (Foot B aS aH aF aL)) M'/\Fine w w' (Foot B aS aH aF aL):=by
  obtain ⟨of,hof⟩ : ∃ o : Obj,o = .cells #[Vi Qi c.kind,Vi Qi c.a,Vi Qi c.b,Vi Qi c.time,Vi Qi c.bk,Vi Qi c.slot,Vi Qi 2,Vi Qi cur,Vi Qi prev,Vi Qi slot,Vi Qi nn,Vs aK keys.length cK,.bool false,Vi Qi ee] 47:=⟨_,rfl⟩
  obtain ⟨oz,hoz⟩ : ∃ o : Obj,o = a0e:=⟨_,rfl⟩
  have HE : Hid (Lk Xb w ((w.alloc of).alloc oz) B lo aS aH aF aL cS cH cF cL M ⟨c,2,cur,prev,slot,nn,keys,false,ee⟩ aK cK):=Lk.first m ⟨c,2,cur,prev,slot,nn,keys,false,ee⟩ aK cK hof hoz
  obtain ⟨f0,f1,f2,f3,f4,f5,f6,f7,f8,f9,f10,f11,f12,f13,ff,fs⟩:=a0a (show ((w.alloc of).alloc oz).heap[w.heap.size]? = some (.cells #[Vi Qi c.kind,Vi Qi c.a,Vi Qi c.b,Vi Qi c.time,Vi Qi c.bk,Vi Qi c.slot,Vi Qi 2,Vi Qi cur,Vi Qi prev,Vi Qi slot,Vi Qi nn,Vs aK keys.length cK,.bool false,Vi Qi ee] 47 (0,0)) from HE.out.fb)
  unfold a0e at hoz
  clear m
  go_enter Tryz.func159,Tryz.ntmps159
  go_wp2_with fail
  rw [<- hof,<- hoz]
  generalize (w.alloc of).alloc oz = W0 at *
  subst hof hoz
  have HE1 : Hid (Lk Xb w W0 B lo aS aH aF aL cS cH cF cL M ⟨c,2,cur,prev,slot,nn,keys,false,ee⟩ aK cK):=HE.out
  clear HE
  clear f0 f1 f2 f3 f4 f5 f6 f7 f8 f9 f10 f11 f12 f13 ff fs
  refine (HP.out _ HE1.out.m (HR.out.below HE1.out.bl)).mono ?_
  rintro e w2 ⟨⟨a2,c2,rfl,hr2,hl2,hd2⟩,hh2,hf2⟩
  have HK2 : Hid (KRow w2 a2 c2 keys/\∀ ad,a2 = some ad->aK = some ad\/w.heap.size + 2<=ad.block):=⟨HKy.out ▸ hr2,fun ad h => (hl2 ad h).imp id (fun h' => Nat.le_trans (lt_of_block HE1.out.zb) h')⟩
  have HD2 : Hid (g.done = false->a2 = aK/\c2 = cK):=hd2
  have HE2 : Hid (Lk2 Xb w w2 (Foot B aS aH aF aL) B lo M' ⟨c,2,cur,prev,slot,nn,keys,false,ee⟩ aK cK):=HE1.out.after hh2 hf2
  clear HE1 hh2 hf2 hr2 hl2 hd2
  obtain ⟨g0,g1,g2,g3,g4,g5,g6,g7,g8,g9,g10,g11,g12,g13,gf,gs⟩:=a0a HE2.out.zb
  go_wp2
  refine bodyPost_ret (v:=.agg #[Vi Qi g.c.kind,Vi Qi g.c.a,Vi Qi g.c.b,Vi Qi g.c.time,Vi Qi g.c.bk,Vi Qi g.c.slot,Vi Qi g.pl,Vi Qi g.cur,Vi Qi g.prev,Vi Qi g.slot,Vi Qi g.n,Vs a2 g.keys.length c2,.bool g.done,Vi Qi g.e]) (by simp [results,Tryz.results159,go_sem,g0,g1,g2,g3,g4,g5,g6,g7,g8,g9,g10,g11,g12,g13]) rfl ⟨⟨a2,c2,rfl,by rw [HKy.out]; exact a2j rfl HK2.out.1 HR.out HK2.out.2,(fun ad h => (HK2.out.2 ad h).imp id (fun h' => by omega)),HD2.out⟩,HE2.out.a0g⟩
set_option maxHeartbeats 1600000 in
theorem adstep3 (t : Int) (M M' : Mm) (g : Fr) (c : Cl) (cur prev slot nn ee : Int) (keys : List (Int × Int)) (B lo : Nat) (aS aH aF aL : Option Addr) (cS cH cF cL : Nat) (aK : Option Addr) (cK : Nat) (w : World)
    (m : Mine Xb w B lo aS aH aF aL cS cH cF cL M) (HR : Hid (KRow w aK cK keys)) (HKy : Hid (g.keys = keys))
    (HP : Hid (∀ (W : World),Mine Xb W B lo aS aH aF aL cS cH cF cL M->KRow W aK cK keys->Calls Tryz.prog 175 #[.pointer (some ⟨B,0,none⟩),.agg #[Vi Qi c.kind,Vi Qi c.a,Vi Qi c.b,Vi Qi c.time,Vi Qi c.bk,Vi Qi c.slot,Vi Qi 3,Vi Qi cur,Vi Qi prev,Vi Qi slot,Vi Qi nn,Vs aK keys.length cK,.bool false,Vi Qi ee]] W fun e w' => Ret W w' e g aK cK/\Has Xb w' B lo (Up W (Foot B aS aH aF aL)) M'/\Fine W w' (Foot B aS aH aF aL))) :
    Calls Tryz.prog 159 #[.pointer (some ⟨B,0,none⟩),.agg #[Vi Qi c.kind,Vi Qi c.a,Vi Qi c.b,Vi Qi c.time,Vi Qi c.bk,Vi Qi c.slot,Vi Qi 3,Vi Qi cur,Vi Qi prev,Vi Qi slot,Vi Qi nn,Vs aK keys.length cK,.bool false,Vi Qi ee],Vi Qi t] w fun e w' => Ret w w' e g aK cK/\Has Xb w' B lo (Up w (Foot B aS aH aF aL)) M'/\Fine w w' (Foot B aS aH aF aL):=by
  obtain ⟨of,hof⟩ : ∃ o : Obj,o = .cells #[Vi Qi c.kind,Vi Qi c.a,Vi Qi c.b,Vi Qi c.time,Vi Qi c.bk,Vi Qi c.slot,Vi Qi 3,Vi Qi cur,Vi Qi prev,Vi Qi slot,Vi Qi nn,Vs aK keys.length cK,.bool false,Vi Qi ee] 47:=⟨_,rfl⟩
  obtain ⟨oz,hoz⟩ : ∃ o : Obj,o = a0e:=⟨_,rfl⟩
  have HE : Hid (Lk Xb w ((w.alloc of).alloc oz) B lo aS aH aF aL cS cH cF cL M ⟨c,3,cur,prev,slot,nn,keys,false,ee⟩ aK cK):=Lk.first m ⟨c,3,cur,prev,slot,nn,keys,false,ee⟩ aK cK hof hoz
  obtain ⟨f0,f1,f2,f3,f4,f5,f6,f7,f8,f9,f10,f11,f12,f13,ff,fs⟩:=a0a (show ((w.alloc of).alloc oz).heap[w.heap.size]? = some (.cells #[Vi Qi c.kind,Vi Qi c.a,Vi Qi c.b,Vi Qi c.time,Vi Qi c.bk,Vi Qi c.slot,Vi Qi 3,Vi Qi cur,Vi Qi prev,Vi Qi slot,Vi Qi nn,Vs aK keys.length cK,.bool false,Vi Qi ee] 47 (0,0)) from HE.out.fb)
  unfold a0e at hoz
  clear m
  go_enter Tryz.func159,Tryz.ntmps159
  go_wp2_with fail
  rw [<- hof,<- hoz]
  generalize (w.alloc of).alloc oz = W0 at *
  subst hof hoz
  have HE1 : Hid (Lk Xb w W0 B lo aS aH aF aL cS cH cF cL M ⟨c,3,cur,prev,slot,nn,keys,false,ee⟩ aK cK):=HE.out
  clear HE
  clear f0 f1 f2 f3 f4 f5 f6 f7 f8 f9 f10 f11 f12 f13 ff fs
  refine (HP.out _ HE1.out.m (HR.out.below HE1.out.bl)).mono ?_
  rintro e w2 ⟨⟨a2,c2,rfl,hr2,hl2,hd2⟩,hh2,hf2⟩
  have HK2 : Hid (KRow w2 a2 c2 keys/\∀ ad,a2 = some ad->aK = some ad\/w.heap.size + 2<=ad.block):=⟨HKy.out ▸ hr2,fun ad h => (hl2 ad h).imp id (fun h' => Nat.le_trans (lt_of_block HE1.out.zb) h')⟩
  have HD2 : Hid (g.done = false->a2 = aK/\c2 = cK):=hd2
  have HE2 : Hid (Lk2 Xb w w2 (Foot B aS aH aF aL) B lo M' ⟨c,3,cur,prev,slot,nn,keys,false,ee⟩ aK cK):=HE1.out.after hh2 hf2
  clear HE1 hh2 hf2 hr2 hl2 hd2
  obtain ⟨g0,g1,g2,g3,g4,g5,g6,g7,g8,g9,g10,g11,g12,g13,gf,gs⟩:=a0a HE2.out.zb
  go_wp2
  refine bodyPost_ret (v:=.agg #[Vi Qi g.c.kind,Vi Qi g.c.a,Vi Qi g.c.b,Vi Qi g.c.time,Vi Qi g.c.bk,Vi Qi g.c.slot,Vi Qi g.pl,Vi Qi g.cur,Vi Qi g.prev,Vi Qi g.slot,Vi Qi g.n,Vs a2 g.keys.length c2,.bool g.done,Vi Qi g.e]) (by simp [results,Tryz.results159,go_sem,g0,g1,g2,g3,g4,g5,g6,g7,g8,g9,g10,g11,g12,g13]) rfl ⟨⟨a2,c2,rfl,by rw [HKy.out]; exact a2j rfl HK2.out.1 HR.out HK2.out.2,(fun ad h => (HK2.out.2 ad h).imp id (fun h' => by omega)),HD2.out⟩,HE2.out.a0g⟩
end
end Go.Proofs.YthhgoenomehobaaGreat.mm
