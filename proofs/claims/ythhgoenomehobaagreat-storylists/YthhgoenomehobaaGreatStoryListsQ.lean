/- For any three numbers and any picks StoryLists returns true, and all four read afterwards as they read before: the keys of a List were all mapped at one step while it went on. No condition. -/
import Derived.Test.YthhgoenomehobaaGreatRows
import Derived.Test.YthhgoenomehobaaGreatP48
import Derived.Test.YthhgoenomehobaaGreatP40
namespace Go.Proofs.YthhgoenomehobaaGreat.storyLists
open Go.ChangeShapes Go.WideShapes Go.ChangeAt Go.RowKit Go.Joins
open Go.Proofs.YthhgoenomehobaaGreat.mm
set_option linter.unusedVariables false

theorem laidOut : laidOutB Tryz.prog = true:=by kernel_rfl

set_option maxRecDepth 100000 in
theorem lifted (os : Os) (started : os.Started) (H : Type) (enc : TypeId × Value->H) :
    ReturnsInHanded {} Tryz.checked os 12 .any (Rows.storyListsSpec.pre6 enc Tryz.prog Tryz.f12 Rows.storyListsRow.domain false) (Rows.storyListsSpec.post enc Tryz.prog Tryz.f12 false true false false):=by
  refine returnsInHanded_of_change_sized (C:=Tryz.checked) own started (by kernel_rfl) Tryz.func12
    (ChangeSpec.witness6 (enc:=enc) (C:=Tryz.checked) false ⟨#[],#[.int .i64 0,.int .i64 0,.int .i64 0,.slice none 0 0],[]⟩ 8 (by kernel_rfl) (by kernel_rfl) (by kernel_rfl) (by kernel_rfl)) ?_
  intro W base args ds gs before hval0 hW _ hsz0 _
  have hsz : (DataW.weightsEach Tryz.prog (Tryz.f12.params.toList ++ Rows.storyListsSpec.plain.varTypes Tryz.prog) (ds ++ gs)).all (·<=reachBytes) = true:=hsz0
  have hval : ∀ (j : Nat) t v,Tryz.f12.params[j]? = some t->args[j]? = some v->Value.okWide Tryz.prog W .any base t v:=hval0
  have hW':=hW
  obtain ⟨p,q,hA0,hV,rfl,_,_⟩:=hW
  have hA : DataW.TrodAll enc Tryz.prog W 0 (fun _ => true) true Tryz.f12.params.toList args.toList ds p:=hA0
  rw [Tryz.params12] at hA hval hsz
  obtain ⟨v0,v1,v2,v3,d0,d1,d2,d3,p0,p1,p2,p3,rfl,rfl,rfl,h0,h1,h2,h3⟩:=trodAll_four hA
  obtain ⟨rfl,rfl⟩:=trodVars_none hV
  clear hA0 hval0 hsz0
  simp only [List.append_nil] at hW'
  have hlt : ∀ x ∈ p0 ++ p1 ++ p2 ++ p3,x.block < W.heap.size:=fun x hx => by simpa using hW'.lt x hx
  have h0k:=h0
  obtain ⟨u0,rfl,hd0,hp0,wu0⟩:=open_int Tryz.underlying3 (hval 0 3 v0 rfl rfl) h0
  have h1k:=h1
  obtain ⟨u1,rfl,hd1,hp1,wu1⟩:=open_int Tryz.underlying3 (hval 1 3 v1 rfl rfl) h1
  have h2k:=h2
  obtain ⟨u2,rfl,hd2,hp2,wu2⟩:=open_int Tryz.underlying3 (hval 2 3 v2 rfl rfl) h2
  have h3k:=h3
  obtain ⟨a3,n3,c3,rfl⟩:=okWide_slice Tryz.underlying54 (hval 3 54 v3 rfl rfl)
  obtain ⟨fuel,hf3⟩:=h3
  obtain ⟨l,aP,cP,e3,rP⟩:=open_prow (c:=.slice a3 n3 c3) hf3 (fun n hn => by
    have:=List.all_eq_true.1 hsz n (DataW.weights_mem_each (j:=3) (t:=54) (d:=d3) rfl rfl n hn)
    simpa using this)
  rw [e3] at h3k hW' ⊢
  refine (storyLists_any u0 u1 u2 l aP cP W rP).mono fun e W' ⟨he,hnx⟩ => ?_
  subst he
  refine ⟨_,rfl,_,_,_,[],p0 ++ (p1 ++ (p2 ++ p3)),[],hW',?_,?_,rfl,hnx.frame _,fun h => by cases h⟩
  · exact trodAll_mk1 (shut_bool Tryz.underlying4 _)
  · exact trodAll_mk4 (Below.trod laidOut (by kernel_rfl) (of_decide_eq_true (by kernel_rfl)) h0k hnx (fun x hx => hlt x (by simp [hx]))) (Below.trod laidOut (by kernel_rfl) (of_decide_eq_true (by kernel_rfl)) h1k hnx (fun x hx => hlt x (by simp [hx]))) (Below.trod laidOut (by kernel_rfl) (of_decide_eq_true (by kernel_rfl)) h2k hnx (fun x hx => hlt x (by simp [hx]))) (Below.trod laidOut (by kernel_rfl) (of_decide_eq_true (by kernel_rfl)) h3k hnx (fun x hx => hlt x (by simp [hx])))

theorem row_holds : Rows.StoryListsSaid :=
  OpenClaim.holds_of_wide 12 Tryz.f12 rfl rfl rfl rfl rfl rfl rfl ⟨rfl,rfl,rfl,rfl,rfl⟩ rfl rfl rfl rfl rfl (by kernel_rfl) Tryz.func12 (by kernel_rfl)
    (of_decide_eq_true (by kernel_rfl)) (by unfold Func.isWrapper; first | (rw [if_pos (by decide +kernel)]; kernel_rfl) | (rw [if_neg (by decide +kernel)]; exact ⟨rfl,rfl⟩))
    (fun os started H enc _ => lifted os started H enc)
#print axioms row_holds
end Go.Proofs.YthhgoenomehobaaGreat.storyLists
