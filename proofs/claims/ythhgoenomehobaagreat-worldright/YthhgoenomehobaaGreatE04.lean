/- Parts. -/
import Derived.Test.YthhgoenomehobaaGreatE01
import Derived.Test.YthhgoenomehobaaGreatE02
import Derived.Carry
namespace Go.Proofs.YthhgoenomehobaaGreat.mm
set_option maxRecDepth 100000
set_option linter.unusedVariables false
section
open Go.ChangeShapes Go.WideShapes Go.ChangeAt Go.RowKit Go.Joins Go.Maps
theorem b2l (aS aH aF aL : Option Addr) (nS nH nF nL cS cH cF cL : Nat) (now k a b t bk sl : Int) (w : World) (hn : nS<=9223372036854775807) (hh : nH<=9223372036854775807) :
    Calls Tryz.prog 143 #[.agg #[.slice aS nS cS,.slice aH nH cH,.slice aF nF cF,.slice aL nL cL,.int .i64 now],.agg #[.int .i64 k,.int .i64 a,.int .i64 b,.int .i64 t,.int .i64 bk,.int .i64 sl]] w fun e w' => e = .returned (.int .i64 (a2o nS nH ⟨k,a,b,t,bk,sl⟩))/\Below w.heap.size w w':=by
  have b0 : Below w.heap.size w ((w.alloc (.cells #[.slice aS nS cS,.slice aH nH cH,.slice aF nF cF,.slice aL nL cL,.int .i64 now] 25)).alloc (.cells #[.int .i64 k,.int .i64 a,.int .i64 b,.int .i64 t,.int .i64 bk,.int .i64 sl] 32)):=below_alloc2 w _ _
  have hk : ∀ W : World,Calls Tryz.prog 96 #[.agg #[.int .i64 a,.int .i64 b]] W fun e w' => e = .returned (.int .i64 (if keyB a b then 0 else 3))/\Below W.heap.size W w':=fun W => b7n a b W
  by_cases h13 : k = 1\/k = 3
  · rw [b9f h13]
    generalize (if keyB a b then (0 : Int) else 3) = kv at *
    rcases h13 with rfl | rfl
    all_goals
      go_enter Tryz.func143,Tryz.ntmps143
      go_wp2_with (go_at_call 96; refine (hk _).mono ?_; rintro e w1 ⟨rfl,hb1⟩)
      go_ret
      exact ⟨rfl,b0.trans (hb1.mono b0.size)⟩
  by_cases h2 : k = 2
  · subst h2
    clear h13
    rw [b3k]
    cases hT : inB t 1 1000000
    · rw [Bool.false_and,if_neg (by simp)]
      go_enter Tryz.func143,Tryz.ntmps143
      go_wp2_with (go_at_call 85; refine (a0w _ _ _ _).mono ?_; rintro e w1 ⟨rfl,rfl⟩)
      go_ret
      exact ⟨rfl,b0⟩
    · rw [Bool.true_and]
      generalize (if keyB a b then (0 : Int) else 3) = kv at *
      go_enter Tryz.func143,Tryz.ntmps143
      go_wp2_with (first | (go_at_call 85; refine (a0w _ _ _ _).mono ?_; rintro e w1 ⟨rfl,rfl⟩) | (go_at_call 96; refine (hk _).mono ?_; rintro e w1 ⟨rfl,hb1⟩))
      go_ret
      exact ⟨rfl,b0.trans (hb1.mono b0.size)⟩
  by_cases h45 : k = 4\/k = 5
  · rw [callE_bk h45]
    clear h13 h2
    have hc : ∀ W : World,Calls Tryz.prog 97 #[.agg #[.slice aS nS cS,.slice aH nH cH,.slice aF nF cF,.slice aL nL cL,.int .i64 now],.int .i64 bk] W fun e w' => e = .returned (.bool (inB bk 0 ((nH : Int) - 1)))/\Below W.heap.size W w':=fun W => a3e aS aH aF aL nS nH nF nL cS cH cF cL now bk W hh
    cases hB : inB bk 0 ((nH : Int) - 1) <;> (rw [hB] at hc; rcases h45 with rfl | rfl)
    all_goals
      first | rw [if_pos rfl] | rw [if_neg (by simp)]
      go_enter Tryz.func143,Tryz.ntmps143
      go_wp2_with (go_at_call 97; refine (hc _).mono ?_; rintro e w1 ⟨rfl,hb1⟩)
      go_ret
      exact ⟨rfl,b0.trans (hb1.mono b0.size)⟩
  by_cases h6 : k = 6
  · subst h6
    clear h13 h2 h45
    rw [b4u]
    have hc : ∀ W : World,Calls Tryz.prog 111 #[.agg #[.slice aS nS cS,.slice aH nH cH,.slice aF nF cF,.slice aL nL cL,.int .i64 now],.int .i64 sl] W fun e w' => e = .returned (.bool (inB sl 0 ((nS : Int) - 1)))/\Below W.heap.size W w':=fun W => a2m aS aH aF aL nS nH nF nL cS cH cF cL now sl W hn
    cases hB : inB sl 0 ((nS : Int) - 1) <;> rw [hB] at hc
    all_goals
      first | rw [if_pos rfl] | rw [if_neg (by simp)]
      go_enter Tryz.func143,Tryz.ntmps143
      go_wp2_with (go_at_call 111; refine (hc _).mono ?_; rintro e w1 ⟨rfl,hb1⟩)
      go_ret
      exact ⟨rfl,b0.trans (hb1.mono b0.size)⟩
  have hno : k < 1\/6 < k:=by omega
  rw [callE_no hno]
  have e1 : (k == 1) = false:=by rw [beq_eq_false_iff_ne]; omega
  have e2 : (k == 2) = false:=by rw [beq_eq_false_iff_ne]; omega
  have e3 : (k == 3) = false:=by rw [beq_eq_false_iff_ne]; omega
  have e4 : (k == 4) = false:=by rw [beq_eq_false_iff_ne]; omega
  have e5 : (k == 5) = false:=by rw [beq_eq_false_iff_ne]; omega
  have e6 : (k == 6) = false:=by rw [beq_eq_false_iff_ne]; omega
  clear h13 h2 h45 h6 hno
  go_enter Tryz.func143,Tryz.ntmps143
  go_wp2
  go_ret
  exact ⟨rfl,b0⟩
theorem plainElem_int_inv {H : Type} {v : Value} {z : DataW H × List MemPlace} (h : plainElem Tryz.prog 36 v = some z) : ∃ x,v = .int .i64 x/\z = (.lit (.int .i64 x),[]):=by
  unfold plainElem at h
  rw [Tryz.underlying36] at h
  cases v <;> simp at h
  obtain ⟨⟨rfl,_⟩,h⟩:=h
  exact ⟨_,rfl,h.symm⟩
theorem frObj (f : Fr) (aK : Option Addr) (cK : Nat) : ∃ o : Obj,o = .cells #[.int .i64 f.c.kind,.int .i64 f.c.a,.int .i64 f.c.b,.int .i64 f.c.time,.int .i64 f.c.bk,.int .i64 f.c.slot,.int .i64 f.pl,.int .i64 f.cur,.int .i64 f.prev,.int .i64 f.slot,.int .i64 f.n,.slice aK f.keys.length cK,.bool f.done,.int .i64 f.e] 47:=⟨_,rfl⟩
end
end Go.Proofs.YthhgoenomehobaaGreat.mm
