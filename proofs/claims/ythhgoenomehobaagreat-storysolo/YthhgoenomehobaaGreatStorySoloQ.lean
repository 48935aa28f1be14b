/- For any two numbers, any calls and any ticks StorySolo returns true, and all four read afterwards as they read before: of one task alone each call finds, adds, drops and clears what those ahead of it left, by a plain list of keys and times. No condition. -/
import Derived.Test.YthhgoenomehobaaGreatRows
import Derived.Test.YthhgoenomehobaaGreatS48
import Derived.Test.YthhgoenomehobaaGreatS49
namespace Go.Proofs.YthhgoenomehobaaGreat.storySolo
open Go.ChangeShapes Go.WideShapes Go.ChangeAt Go.RowKit Go.Joins
open Go.Proofs.YthhgoenomehobaaGreat.mm
set_option linter.unusedVariables false

theorem bytes3:Tryz.prog.bytesOf 3=8:=by kernel_rfl
section
variable {H:Type} {enc:TypeId × Value->H} {w:World}
theorem open_irow {fuel : Nat} {c : Value} {x : DataW H × List MemPlace} (h : DataW.trod enc Tryz.prog w 0 (fun _ => true) true fuel 23 [c] = some x) (hz : ∀ n ∈ x.1.weights Tryz.prog 23, n ≤ reachBytes) :
    ∃ l ao cap, c = .slice ao l.length cap ∧ Ea w ao cap l := by
  rcases open_ints Tryz.underlying23 Tryz.underlying3 cells3 h with ⟨e, -⟩ | ⟨a, len, cap, zs, e, hb, hl, hm, hlen, hx, hc, hwf⟩
  · simp at e
    exact ⟨[], none, 0, e, Nat.zero_le _, by decide, fun _ => rfl, .inl rfl⟩
  · simp at e hlen
    subst e
    have hlt : (zs.take len).length = len := by rw [List.length_take]; omega
    refine ⟨zs.take len, some a, cap, by rw [hlt], by omega, ?_, (fun h => by cases h), ?_⟩
    · rw [hx] at hz
      have := hz ((len + (cap - len)) * 8) (by simp [DataW.weights, Tryz.underlying23, bytes3, lits, hlen]; left; omega)
      unfold reachBytes at this
      rw [hlt]
      omega
    · by_cases h0 : len = 0
      · left; omega
      · right
        obtain ⟨b, off, spot⟩ := a
        have hspot : spot = none := by simpa [Addr.add] using World.cell?_spot (hc 0 (by omega))
        subst hspot
        refine ⟨b, off, rfl, fun i hi => ?_⟩
        have := hc i (by omega)
        rw [Addr.add_lit] at this
        rw [this]
        have hi' : i < zs.length := by omega
        simp [List.getD_eq_getElem?_getD, hi']
end
theorem laidOut : laidOutB Tryz.prog = true:=by kernel_rfl

set_option maxRecDepth 100000 in
theorem lifted (os : Os) (started : os.Started) (H : Type) (enc : TypeId × Value->H) :
    ReturnsInHanded {} Tryz.checked os 11 .any (Rows.storySoloSpec.pre6 enc Tryz.prog Tryz.f11 Rows.storySoloRow.domain false) (Rows.storySoloSpec.post enc Tryz.prog Tryz.f11 false true false false):=by
  refine returnsInHanded_of_change_sized (C:=Tryz.checked) own started (by kernel_rfl) Tryz.func11
    (ChangeSpec.witness6 (enc:=enc) (C:=Tryz.checked) false ⟨#[],#[.int .i64 0,.int .i64 0,.slice none 0 0,.slice none 0 0],[]⟩ 8 (by kernel_rfl) (by kernel_rfl) (by kernel_rfl) (by kernel_rfl)) ?_
  intro W base args ds gs before hval0 hW _ hsz0 _
  have hsz : (DataW.weightsEach Tryz.prog (Tryz.f11.params.toList ++ Rows.storySoloSpec.plain.varTypes Tryz.prog) (ds ++ gs)).all (·<=reachBytes) = true:=hsz0
  have hval : ∀ (j : Nat) t v,Tryz.f11.params[j]? = some t->args[j]? = some v->Value.okWide Tryz.prog W .any base t v:=hval0
  have hW':=hW
  obtain ⟨p,q,hA0,hV,rfl,_,_⟩:=hW
  have hA : DataW.TrodAll enc Tryz.prog W 0 (fun _ => true) true Tryz.f11.params.toList args.toList ds p:=hA0
  rw [Tryz.params11] at hA hval hsz
  obtain ⟨v0,v1,v2,v3,d0,d1,d2,d3,p0,p1,p2,p3,rfl,rfl,rfl,h0,h1,h2,h3⟩:=trodAll_four hA
  obtain ⟨rfl,rfl⟩:=trodVars_none hV
  clear hA0 hval0 hsz0
  simp only [List.append_nil] at hW'
  have hlt : ∀ x ∈ p0 ++ p1 ++ p2 ++ p3,x.block < W.heap.size:=fun x hx => by simpa using hW'.lt x hx
  have h0k:=h0
  obtain ⟨u0,rfl,hd0,hp0,wu0⟩:=open_int Tryz.underlying3 (hval 0 3 v0 rfl rfl) h0
  have h1k:=h1
  obtain ⟨u1,rfl,hd1,hp1,wu1⟩:=open_int Tryz.underlying3 (hval 1 3 v1 rfl rfl) h1
  have h2k:=h2
  obtain ⟨a2,n2,c2,rfl⟩:=okWide_slice Tryz.underlying82 (hval 2 82 v2 rfl rfl)
  obtain ⟨fuel2,hf2⟩:=h2
  obtain ⟨cl,aC,cC,e2,rC⟩:=open_crow (c:=.slice a2 n2 c2) hf2 (fun n hn => by
    have:=List.all_eq_true.1 hsz n (DataW.weights_mem_each (j:=2) (t:=82) (d:=d2) rfl rfl n hn)
    simpa using this)
  have h3k:=h3
  obtain ⟨a3,n3,c3,rfl⟩:=okWide_slice Tryz.underlying23 (hval 3 23 v3 rfl rfl)
  obtain ⟨fuel3,hf3⟩:=h3
  obtain ⟨tk,aK,cK,e3,rK⟩:=open_irow (c:=.slice a3 n3 c3) hf3 (fun n hn => by
    have:=List.all_eq_true.1 hsz n (DataW.weights_mem_each (j:=3) (t:=23) (d:=d3) rfl rfl n hn)
    simpa using this)
  rw [e2] at h2k
  rw [e3] at h3k
  rw [e2,e3] at hW' ⊢
  refine (b3l u0 u1 cl aC cC tk aK cK W rC rK).mono fun e W' ⟨he,hnx⟩ => ?_
  subst he
  refine ⟨_,rfl,_,_,_,[],p0 ++ (p1 ++ (p2 ++ p3)),[],hW',?_,?_,rfl,hnx.frame _,fun h => by cases h⟩
  · exact trodAll_mk1 (shut_bool Tryz.underlying4 _)
  · exact trodAll_mk4 (Below.trod laidOut (by kernel_rfl) (of_decide_eq_true (by kernel_rfl)) h0k hnx (fun x hx => hlt x (by simp [hx]))) (Below.trod laidOut (by kernel_rfl) (of_decide_eq_true (by kernel_rfl)) h1k hnx (fun x hx => hlt x (by simp [hx]))) (Below.trod laidOut (by kernel_rfl) (of_decide_eq_true (by kernel_rfl)) h2k hnx (fun x hx => hlt x (by simp [hx]))) (Below.trod laidOut (by kernel_rfl) (of_decide_eq_true (by kernel_rfl)) h3k hnx (fun x hx => hlt x (by simp [hx])))

theorem row_holds : Rows.StorySoloSaid :=
  OpenClaim.holds_of_wide 11 Tryz.f11 rfl rfl rfl rfl rfl rfl rfl ⟨rfl,rfl,rfl,rfl,rfl⟩ rfl rfl rfl rfl rfl (by kernel_rfl) Tryz.func11 (by kernel_rfl)
    (of_decide_eq_true (by kernel_rfl)) (by unfold Func.isWrapper; first | (rw [if_pos (by decide +kernel)]; kernel_rfl) | (rw [if_neg (by decide +kernel)]; exact ⟨rfl,rfl⟩))
    (fun os started H enc _ => lifted os started H enc)
#print axioms row_holds
end Go.Proofs.YthhgoenomehobaaGreat.storySolo
