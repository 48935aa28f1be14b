/- For any world, any picks and any past call StoryTells returns true, and all three read afterwards as they read before: which pick accounts for any past call is told as the document says, errors too. No condition. -/
import Derived.Test.YthhgoenomehobaaGreatRows
import Derived.Test.YthhgoenomehobaaGreatP43
import Derived.Test.YthhgoenomehobaaGreatP50
namespace Go.Proofs.YthhgoenomehobaaGreat.storyTells
open Go.ChangeShapes Go.WideShapes Go.ChangeAt Go.RowKit Go.Joins
open Go.Proofs.YthhgoenomehobaaGreat.mm
set_option linter.unusedVariables false

theorem laidOut : laidOutB Tryz.prog = true:=by kernel_rfl

theorem three {H : Type} {enc : TypeId × Value->H} {P : Program} {w : World} {base : Nat} {iq : Nat->Bool} {kw : Bool} {t t' t'' : TypeId} {args : Array Value} {ds : List (DataW H)} {ps : List MemPlace} (h : DataW.TrodAll enc P w base iq kw [t,t',t''] args.toList ds ps) :
    ∃ v v' YM d d' ZR p p' YP,args = #[v,v',YM] /\ ds = [d,d',ZR] /\ ps = p ++ (p' ++ YP) /\ DataW.Trod enc P w base iq kw t v d p /\ DataW.Trod enc P w base iq kw t' v' d' p' /\ DataW.Trod enc P w base iq kw t'' YM ZR YP:=by
  obtain ⟨v,vs,d,ds',p,q,hargs,rfl,rfl,hd,h1⟩:=trodAll_cons h
  obtain ⟨v',vs',d',ds'',p',q',rfl,rfl,rfl,hd',h2⟩:=trodAll_cons h1
  obtain ⟨YM,vs'',ZR,ds3,YP,q'',rfl,rfl,rfl,hd'',h3⟩:=trodAll_cons h2
  obtain ⟨rfl,rfl,rfl⟩:=trodAll_nil h3
  exact ⟨v,v',YM,d,d',ZR,p,p',YP,by cases args; simp_all,rfl,by simp,hd,hd',hd''⟩

set_option maxRecDepth 100000 in
theorem lifted (os : Os) (xn : os.Started) (H : Type) (enc : TypeId × Value->H) :
    ReturnsInHanded {} Tryz.checked os 10 .any (Rows.storyTellsSpec.pre6 enc Tryz.prog Tryz.f10 Rows.storyTellsRow.domain false) (Rows.storyTellsSpec.post enc Tryz.prog Tryz.f10 false true false false):=by
  refine returnsInHanded_of_change_sized (C:=Tryz.checked) own xn (by kernel_rfl) Tryz.func10
    (ChangeSpec.witness6 (enc:=enc) (C:=Tryz.checked) false ⟨#[],#[.agg #[.slice none 0 0,.slice none 0 0,.slice none 0 0,.slice none 0 0,.int .i64 0,.slice none 0 0],.slice none 0 0,.agg #[.int .i64 0,.int .i64 0,.int .i64 0,.int .i64 0,.int .i64 0,.int .i64 0,.int .i64 0,.int .i64 0,.int .i64 0,.int .i64 0,.int .i64 0,.int .i64 0,.slice none 0 0]],[]⟩ 8 (by kernel_rfl) (by kernel_rfl) (by kernel_rfl) (by kernel_rfl)) ?_
  intro W base args ds gs before LQ hW _ TU _
  have qg : (DataW.weightsEach Tryz.prog (Tryz.f10.params.toList ++ Rows.storyTellsSpec.plain.varTypes Tryz.prog) (ds ++ gs)).all (·<=reachBytes) = true:=TU
  have IQ : ∀ (j : Nat) t v,Tryz.f10.params[j]? = some t->args[j]? = some v->Value.okWide Tryz.prog W .any base t v:=LQ
  have wo:=hW
  obtain ⟨p,q,ML,hV,rfl,_,_⟩:=hW
  have hA : DataW.TrodAll enc Tryz.prog W 0 (fun _ => true) true Tryz.f10.params.toList args.toList ds p:=ML
  rw [Tryz.params10] at hA IQ qg
  obtain ⟨v0,v1,v2,d0,d1,d2,p0,p1,p2,rfl,rfl,rfl,h0,h1,h2⟩:=three hA
  obtain ⟨rfl,rfl⟩:=trodVars_none hV
  clear ML LQ TU
  simp only [List.append_nil] at wo
  have gm : ∀ x ∈ p0 ++ (p1 ++ p2),x.block < W.heap.size:=fun x hx => by simpa using wo.lt x hx
  have h0k:=h0
  obtain ⟨M,tl,aS,aH,aF,aL,cS,cH,cF,cL,aT,cT,rfl,A,r⟩:=b6h (IQ 0 28 v0 rfl rfl) h0 (fun n hn => by
    have:=List.all_eq_true.1 qg n (DataW.weights_mem_each (j:=0) (t:=28) (d:=d0) rfl rfl n hn)
    simpa using this)
  have h1k:=h1
  obtain ⟨a1,n1,c1,rfl⟩:=okWide_slice Tryz.underlying54 (IQ 1 54 v1 rfl rfl)
  obtain ⟨qR,ER⟩:=h1
  obtain ⟨l,aP,cP,e1,rP⟩:=open_prow (c:=.slice a1 n1 c1) ER (fun n hn => by
    have:=List.all_eq_true.1 qg n (DataW.weights_mem_each (j:=1) (t:=54) (d:=d1) rfl rfl n hn)
    simpa using this)
  have h2k:=h2
  obtain ⟨pp,a,b,aK,cK,rfl⟩:=open_past (IQ 2 78 v2 rfl rfl) h2 (fun n hn => by
    have:=List.all_eq_true.1 qg n (DataW.weights_mem_each (j:=2) (t:=78) (d:=d2) rfl rfl n hn)
    simpa using this)
  rw [e1] at h1k wo ⊢
  have MB:=b2h (W:=⟨M,tl.map (·.1)⟩) l aP cP pp a b aK cK aS aH aF aL cS cH cF cL aT cT W (world_ans A r) rP
  unfold Ew at MB
  rw [List.length_map] at MB
  refine MB.mono fun e W' ⟨he,wS⟩ => ?_
  subst he
  refine ⟨_,rfl,_,_,_,[],p0 ++ (p1 ++ p2),[],wo,?_,?_,rfl,wS.frame _,fun h => by cases h⟩
  · exact trodAll_mk1 (shut_bool Tryz.underlying4 _)
  · exact trodAll_mk3 (Below.trod laidOut (by kernel_rfl) (of_decide_eq_true (by kernel_rfl)) h0k wS (fun x hx => gm x (by simp [hx]))) (Below.trod laidOut (by kernel_rfl) (of_decide_eq_true (by kernel_rfl)) h1k wS (fun x hx => gm x (by simp [hx]))) (Below.trod laidOut (by kernel_rfl) (of_decide_eq_true (by kernel_rfl)) h2k wS (fun x hx => gm x (by simp [hx])))

theorem row_holds : Rows.StoryTellsSaid :=
  OpenClaim.holds_of_wide 10 Tryz.f10 rfl rfl rfl rfl rfl rfl rfl ⟨rfl,rfl,rfl,rfl,rfl⟩ rfl rfl rfl rfl rfl (by kernel_rfl) Tryz.func10 (by kernel_rfl)
    (of_decide_eq_true (by kernel_rfl)) (by unfold Func.isWrapper; first | (rw [if_pos (by decide +kernel)]; kernel_rfl) | (rw [if_neg (by decide +kernel)]; exact ⟨rfl,rfl⟩))
    (fun os xn H enc _ => lifted os xn H enc)
#print axioms row_holds
end Go.Proofs.YthhgoenomehobaaGreat.storyTells
