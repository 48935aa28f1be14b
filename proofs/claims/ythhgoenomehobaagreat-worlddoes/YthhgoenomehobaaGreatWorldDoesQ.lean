/- For any world, any pick and any three numbers WorldDoes returns true, and all five read afterwards as they read before: any pick does in any world what the document says, errors too. No condition. -/
import Derived.Test.YthhgoenomehobaaGreatRows
import Derived.Test.YthhgoenomehobaaGreatP52
import Derived.Test.YthhgoenomehobaaGreatP41
namespace Go.Proofs.YthhgoenomehobaaGreat.worldDoes
open Go.ChangeShapes Go.WideShapes Go.ChangeAt Go.RowKit Go.Joins
open Go.Proofs.YthhgoenomehobaaGreat.mm
set_option linter.unusedVariables false

theorem laidOut : laidOutB Tryz.prog = true:=by kernel_rfl

theorem five {H : Type} {enc : TypeId × Value->H} {P : Program} {w : World} {base : Nat} {spare : Nat->Bool} {held : Bool} {t t' t'' t3 t4 : TypeId} {args : Array Value} {ds : List (DataW H)} {ps : List MemPlace} (h : DataW.TrodAll enc P w base spare held [t,t',t'',t3,t4] args.toList ds ps) :
    ∃ v v' v'' v3 v4 d d' d'' d3 d4 p p' p'' p3 p4,args = #[v,v',v'',v3,v4] /\ ds = [d,d',d'',d3,d4] /\ ps = p ++ (p' ++ (p'' ++ (p3 ++ p4))) /\ DataW.Trod enc P w base spare held t v d p /\ DataW.Trod enc P w base spare held t' v' d' p' /\ DataW.Trod enc P w base spare held t'' v'' d'' p'' /\ DataW.Trod enc P w base spare held t3 v3 d3 p3 /\ DataW.Trod enc P w base spare held t4 v4 d4 p4:=by
  obtain ⟨v,vs,d,ds',p,q,hargs,rfl,rfl,hd,h1⟩:=trodAll_cons h
  obtain ⟨v',vs',d',ds'',p',q',rfl,rfl,rfl,hd',h2⟩:=trodAll_cons h1
  obtain ⟨v'',vs'',d'',ds3,p'',q'',rfl,rfl,rfl,hd'',h3⟩:=trodAll_cons h2
  obtain ⟨v3,vs3,d3,ds4,p3,q3,rfl,rfl,rfl,hd3,h4⟩:=trodAll_cons h3
  obtain ⟨v4,vs4,d4,ds5,p4,q4,rfl,rfl,rfl,hd4,h5⟩:=trodAll_cons h4
  obtain ⟨rfl,rfl,rfl⟩:=trodAll_nil h5
  exact ⟨v,v',v'',v3,v4,d,d',d'',d3,d4,p,p',p'',p3,p4,by cases args; simp_all,rfl,by simp,hd,hd',hd'',hd3,hd4⟩

set_option maxRecDepth 100000 in
theorem lifted (os : Os) (started : os.Started) (H : Type) (enc : TypeId × Value->H) :
    ReturnsInHanded {} Tryz.checked os 3 .any (Rows.worldDoesSpec.pre6 enc Tryz.prog Tryz.f3 Rows.worldDoesRow.domain false) (Rows.worldDoesSpec.post enc Tryz.prog Tryz.f3 false true false false):=by
  refine returnsInHanded_of_change_sized (C:=Tryz.checked) own started (by kernel_rfl) Tryz.func3
    (ChangeSpec.witness6 (enc:=enc) (C:=Tryz.checked) false ⟨#[],#[.agg #[.slice none 0 0,.slice none 0 0,.slice none 0 0,.slice none 0 0,.int .i64 0,.slice none 0 0],.agg #[.int .i64 0,.bool false,.bool false,.int .i64 0,.int .i64 0,.int .i64 0,.int .i64 0,.int .i64 0,.int .i64 0],.int .i64 0,.int .i64 0,.int .i64 0],[]⟩ 8 (by kernel_rfl) (by kernel_rfl) (by kernel_rfl) (by kernel_rfl)) ?_
  intro W base args ds gs before hval0 hW _ hsz0 _
  have hsz : (DataW.weightsEach Tryz.prog (Tryz.f3.params.toList ++ Rows.worldDoesSpec.plain.varTypes Tryz.prog) (ds ++ gs)).all (·<=reachBytes) = true:=hsz0
  have hval : ∀ (j : Nat) t v,Tryz.f3.params[j]? = some t->args[j]? = some v->Value.okWide Tryz.prog W .any base t v:=hval0
  have hW':=hW
  obtain ⟨p,q,hA0,hV,rfl,_,_⟩:=hW
  have hA : DataW.TrodAll enc Tryz.prog W 0 (fun _ => true) true Tryz.f3.params.toList args.toList ds p:=hA0
  rw [Tryz.params3] at hA hval hsz
  obtain ⟨v0,v1,v2,v3,v4,d0,d1,d2,d3,d4,p0,p1,p2,p3,p4,rfl,rfl,rfl,h0,h1,h2,h3,h4⟩:=five hA
  obtain ⟨rfl,rfl⟩:=trodVars_none hV
  clear hA0 hval0 hsz0
  simp only [List.append_nil] at hW'
  have hlt : ∀ x ∈ p0 ++ (p1 ++ (p2 ++ (p3 ++ p4))),x.block < W.heap.size:=fun x hx => by simpa using hW'.lt x hx
  have h0k:=h0
  obtain ⟨M,tl,aS,aH,aF,aL,cS,cH,cF,cL,aT,cT,rfl,A,r⟩:=b3q (hval 0 28 v0 rfl rfl) h0 (fun n hn => by
    have:=List.all_eq_true.1 hsz n (DataW.weights_mem_each (j:=0) (t:=28) (d:=d0) rfl rfl n hn)
    simpa using this)
  have h1k:=h1
  obtain ⟨x,rfl⟩:=b3p (hval 1 34 v1 rfl rfl) h1
  have h2k:=h2
  obtain ⟨many,rfl,hd2,hp2,wu2⟩:=open_int Tryz.underlying3 (hval 2 3 v2 rfl rfl) h2
  have h3k:=h3
  obtain ⟨buckets,rfl,hd3,hp3,wu3⟩:=open_int Tryz.underlying3 (hval 3 3 v3 rfl rfl) h3
  have h4k:=h4
  obtain ⟨tasks,rfl,hd4,hp4,wu4⟩:=open_int Tryz.underlying3 (hval 4 3 v4 rfl rfl) h4
  have hans : D8 0 W (.agg #[.slice aS M.slots.length cS,.slice aH M.heads.length cH,.slice aF M.free.length cF,.slice aL M.locks.length cL,.int .i64 M.now,.slice aT (tl.map (·.1)).length cT]) ⟨M,tl.map (·.1)⟩:=world_ans A r
  have hcall:=b0k (W:=⟨M,tl.map (·.1)⟩) x many buckets tasks aS aH aF aL cS cH cF cL aT cT W hans
  rw [List.length_map] at hcall
  refine hcall.mono fun e W' ⟨he,hnx⟩ => ?_
  subst he
  refine ⟨_,rfl,_,_,_,[],p0 ++ (p1 ++ (p2 ++ (p3 ++ p4))),[],hW',?_,?_,rfl,hnx.frame _,fun h => by cases h⟩
  · exact trodAll_mk1 (shut_bool Tryz.underlying4 _)
  · exact ⟨_,_,(Below.trod laidOut (by kernel_rfl) (of_decide_eq_true (by kernel_rfl)) h0k hnx (fun x hx => hlt x (by simp [hx]))),trodAll_mk4 (Below.trod laidOut (by kernel_rfl) (of_decide_eq_true (by kernel_rfl)) h1k hnx (fun x hx => hlt x (by simp [hx]))) (Below.trod laidOut (by kernel_rfl) (of_decide_eq_true (by kernel_rfl)) h2k hnx (fun x hx => hlt x (by simp [hx]))) (Below.trod laidOut (by kernel_rfl) (of_decide_eq_true (by kernel_rfl)) h3k hnx (fun x hx => hlt x (by simp [hx]))) (Below.trod laidOut (by kernel_rfl) (of_decide_eq_true (by kernel_rfl)) h4k hnx (fun x hx => hlt x (by simp [hx]))),rfl⟩

theorem row_holds : Rows.WorldDoesSaid :=
  OpenClaim.holds_of_wide 3 Tryz.f3 rfl rfl rfl rfl rfl rfl rfl ⟨rfl,rfl,rfl,rfl,rfl⟩ rfl rfl rfl rfl rfl (by kernel_rfl) Tryz.func3 (by kernel_rfl)
    (of_decide_eq_true (by kernel_rfl)) (by unfold Func.isWrapper; first | (rw [if_pos (by decide +kernel)]; kernel_rfl) | (rw [if_neg (by decide +kernel)]; exact ⟨rfl,rfl⟩))
    (fun os started H enc _ => lifted os started H enc)
#print axioms row_holds
end Go.Proofs.YthhgoenomehobaaGreat.worldDoes
