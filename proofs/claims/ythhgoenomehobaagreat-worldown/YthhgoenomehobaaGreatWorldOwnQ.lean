/- For any world and any pick WorldOwn returns true, and both read afterwards as they read before: what one task does changes nothing that another one has in its hands. No condition. -/
import Derived.Test.YthhgoenomehobaaGreatRows
import Derived.Test.YthhgoenomehobaaGreatP47
namespace Go.Proofs.YthhgoenomehobaaGreat.worldOwn
open Go.ChangeShapes Go.WideShapes Go.ChangeAt Go.RowKit Go.Joins
open Go.Proofs.YthhgoenomehobaaGreat.mm
set_option linter.unusedVariables false

theorem laidOut : laidOutB Tryz.prog = true:=by kernel_rfl

set_option maxRecDepth 100000 in
theorem lifted (os : Os) (started : os.Started) (H : Type) (enc : TypeId × Value->H) :
    ReturnsInHanded {} Tryz.checked os 4 .any (Rows.worldOwnSpec.pre6 enc Tryz.prog Tryz.f4 Rows.worldOwnRow.domain false) (Rows.worldOwnSpec.post enc Tryz.prog Tryz.f4 false true false false):=by
  refine returnsInHanded_of_change_sized (C:=Tryz.checked) own started (by kernel_rfl) Tryz.func4
    (ChangeSpec.witness6 (enc:=enc) (C:=Tryz.checked) false ⟨#[],#[.agg #[.slice none 0 0,.slice none 0 0,.slice none 0 0,.slice none 0 0,.int .i64 0,.slice none 0 0],.agg #[.int .i64 0,.bool false,.bool false,.int .i64 0,.int .i64 0,.int .i64 0,.int .i64 0,.int .i64 0,.int .i64 0]],[]⟩ 8 (by kernel_rfl) (by kernel_rfl) (by kernel_rfl) (by kernel_rfl)) ?_
  intro W base args ds gs before hval0 hW _ hsz0 _
  have hsz : (DataW.weightsEach Tryz.prog (Tryz.f4.params.toList ++ Rows.worldOwnSpec.plain.varTypes Tryz.prog) (ds ++ gs)).all (·<=reachBytes) = true:=hsz0
  have hval : ∀ (j : Nat) t v,Tryz.f4.params[j]? = some t->args[j]? = some v->Value.okWide Tryz.prog W .any base t v:=hval0
  have hW':=hW
  obtain ⟨p,q,hA0,hV,rfl,_,_⟩:=hW
  have hA : DataW.TrodAll enc Tryz.prog W 0 (fun _ => true) true Tryz.f4.params.toList args.toList ds p:=hA0
  rw [Tryz.params4] at hA hval hsz
  obtain ⟨v0,v1,d0,d1,p0,p1,rfl,rfl,rfl,h0,h1⟩:=trodAll_two hA
  obtain ⟨rfl,rfl⟩:=trodVars_none hV
  clear hA0 hval0 hsz0
  simp only [List.append_nil] at hW'
  have hlt : ∀ x ∈ p0 ++ p1,x.block < W.heap.size:=fun x hx => by simpa using hW'.lt x hx
  have h0k:=h0
  obtain ⟨M,tl,aS,aH,aF,aL,cS,cH,cF,cL,aT,cT,rfl,A,r⟩:=open_world (hval 0 28 v0 rfl rfl) h0 (fun n hn => by
    have:=List.all_eq_true.1 hsz n (DataW.weights_mem_each (j:=0) (t:=28) (d:=d0) rfl rfl n hn)
    simpa using this)
  have h1k:=h1
  obtain ⟨x,rfl⟩:=open_pickV (hval 1 34 v1 rfl rfl) h1
  have hans : WAns 0 W (.agg #[.slice aS M.slots.length cS,.slice aH M.heads.length cH,.slice aF M.free.length cF,.slice aL M.locks.length cL,.int .i64 M.now,.slice aT (tl.map (·.1)).length cT]) ⟨M,tl.map (·.1)⟩:=world_ans A r
  have hcall:=worldOwn_any (W:=⟨M,tl.map (·.1)⟩) x aS aH aF aL cS cH cF cL aT cT W hans
  rw [List.length_map] at hcall
  refine hcall.mono fun e W' ⟨he,hnx⟩ => ?_
  subst he
  refine ⟨_,rfl,_,_,_,[],p0 ++ p1,[],hW',?_,?_,rfl,hnx.frame _,fun h => by cases h⟩
  · exact trodAll_mk1 (shut_bool Tryz.underlying4 _)
  · exact trodAll_mk2 (Below.trod laidOut (by kernel_rfl) (of_decide_eq_true (by kernel_rfl)) h0k hnx (fun x hx => hlt x (by simp [hx]))) (Below.trod laidOut (by kernel_rfl) (of_decide_eq_true (by kernel_rfl)) h1k hnx (fun x hx => hlt x (by simp [hx])))

theorem row_holds : Rows.WorldOwnSaid :=
  OpenClaim.holds_of_wide 4 Tryz.f4 rfl rfl rfl rfl rfl rfl rfl ⟨rfl,rfl,rfl,rfl,rfl⟩ rfl rfl rfl rfl rfl (by kernel_rfl) Tryz.func4 (by kernel_rfl)
    (of_decide_eq_true (by kernel_rfl)) (by unfold Func.isWrapper; first | (rw [if_pos (by decide +kernel)]; kernel_rfl) | (rw [if_neg (by decide +kernel)]; exact ⟨rfl,rfl⟩))
    (fun os started H enc _ => lifted os started H enc)
#print axioms row_holds
end Go.Proofs.YthhgoenomehobaaGreat.worldOwn
