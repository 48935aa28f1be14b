/-
  No cell of these rows narrows 'for every input' (looked for: loops, veiled, ifaces, maps, wideKeys, modest, calm, conditions, laid).
  DERIVED. THE GIVEN ROWS OF THIS SEAT. 3 by the template 'for every input the law returns true; each argument reads behind the call as it read before'; 0 by the template 'total and deterministic' (their statements: YtdbilofhcadmoacTotals.lean).
  GIVEN WITH THE SEED: the statements are not yours to turn. If you find one false, say at which input.
  Laid BY PROGRAM, IN A SANDBOX (cutbox-rows.mjs): the forced cells as the released guide's own fill.sh prints them over the translation 24d0d4c229a80f36… (all of the seat's roots in one cut). By AI agents, Wed Nov 11 2026. No macro, syntax, notation, axiom, sorry.
-/
import Derived.Test.YtdbilofhcadmoacChecked
import GoSem.Claim
import GoSem.ClaimJoined
import GoSem.ClaimMapViews
import Derived.JoinedTies
import Derived.KernelRfl
namespace Go.Proofs.Ytdbilofhcadmoac
/- THE CELL 'sum', in the pinned program and in every row, IS THE sha256 OF THE DUMP (.gsa) THAT YtdbilofhcadmoacProg.lean LOADS. Nothing in Lean hashes anything: it is a label: what it is worth is what the hold of that sum in a sandbox is worth. -/
noncomputable def Try.pinned : Pinned := { name := "ytdbilofhcadmoac", sum := "24d0d4c229a80f36c501f4ec047cc720da3b5451152381d6a0ff74b6628dc68b", checked := Try.checked }
namespace Rows
def none {H : Type} : Left H := { results := [], args := [] }

/-- 'turnstilelaw.SweepSteps': WHATEVER THE INPUT: true; the input reads as it did. -/
def sweepStepsSpec : ChangeSpec := { name := "sweepSteps", fn := fun _ => fun
  | [d1, d2, d3, d4] => { results := [.lit (.bool true)], args := [d1, d2, d3, d4] }
  | _ => none }
def sweepStepsRow : OpenClaim := { program := "ytdbilofhcadmoac", sum := "24d0d4c229a80f36c501f4ec047cc720da3b5451152381d6a0ff74b6628dc68b", func := "turnstile/turnstilelaw.SweepSteps", spec := "sweepSteps", unfollowed := true, recurses := true, plainKeys := false, apart := false }
def SweepStepsSaid : Prop := sweepStepsRow.holds Try.pinned (OpenSpec.ofChange sweepStepsSpec)

/-- ITS FALSE NEIGHBOUR: 'it returns false'. Refute it at one input. -/
def sweepStepsWrong : ChangeSpec := { name := "sweepSteps", fn := fun _ => fun
  | [d1, d2, d3, d4] => { results := [.lit (.bool false)], args := [d1, d2, d3, d4] }
  | _ => none }
def SweepStepsWrongFalsely : Prop := sweepStepsRow.holds Try.pinned (OpenSpec.ofChange sweepStepsWrong)

/-- 'turnstilelaw.SweepAlone': WHATEVER THE INPUT: true; the input reads as it did. -/
def sweepAloneSpec : ChangeSpec := { name := "sweepAlone", fn := fun _ => fun
  | [d1, d2] => { results := [.lit (.bool true)], args := [d1, d2] }
  | _ => none }
def sweepAloneRow : OpenClaim := { program := "ytdbilofhcadmoac", sum := "24d0d4c229a80f36c501f4ec047cc720da3b5451152381d6a0ff74b6628dc68b", func := "turnstile/turnstilelaw.SweepAlone", spec := "sweepAlone", unfollowed := true, recurses := true, plainKeys := false, apart := false }
def SweepAloneSaid : Prop := sweepAloneRow.holds Try.pinned (OpenSpec.ofChange sweepAloneSpec)

/-- ITS FALSE NEIGHBOUR: 'it returns false'. Refute it at one input. -/
def sweepAloneWrong : ChangeSpec := { name := "sweepAlone", fn := fun _ => fun
  | [d1, d2] => { results := [.lit (.bool false)], args := [d1, d2] }
  | _ => none }
def SweepAloneWrongFalsely : Prop := sweepAloneRow.holds Try.pinned (OpenSpec.ofChange sweepAloneWrong)

/-- 'turnstilelaw.SweepTouches': WHATEVER THE INPUT: true; the input reads as it did. -/
def sweepTouchesSpec : ChangeSpec := { name := "sweepTouches", fn := fun _ => fun
  | [d1, d2, d3, d4] => { results := [.lit (.bool true)], args := [d1, d2, d3, d4] }
  | _ => none }
def sweepTouchesRow : OpenClaim := { program := "ytdbilofhcadmoac", sum := "24d0d4c229a80f36c501f4ec047cc720da3b5451152381d6a0ff74b6628dc68b", func := "turnstile/turnstilelaw.SweepTouches", spec := "sweepTouches", unfollowed := true, recurses := true, plainKeys := false, apart := false }
def SweepTouchesSaid : Prop := sweepTouchesRow.holds Try.pinned (OpenSpec.ofChange sweepTouchesSpec)

/-- ITS FALSE NEIGHBOUR: 'it returns false'. Refute it at one input. -/
def sweepTouchesWrong : ChangeSpec := { name := "sweepTouches", fn := fun _ => fun
  | [d1, d2, d3, d4] => { results := [.lit (.bool false)], args := [d1, d2, d3, d4] }
  | _ => none }
def SweepTouchesWrongFalsely : Prop := sweepTouchesRow.holds Try.pinned (OpenSpec.ofChange sweepTouchesWrong)

/- THE SECOND FORM. 'bulk': how many values and letters a reading holds, each counted each time it is reached (what is shared counts as often as it is met; a slice's spare places count too). A statement '..UptoSaid' is the law's where the arguments, and the package variables that the reading takes, are together of bulk at most 1048576: NARROWER than '..Said'. Prove '..Said' where nothing that the law and all that it calls make is longer than what came in: it says more and counts as full. Else prove '..UptoSaid'. A law counts once. -/
mutual
def uptoBulk {H : Type} : DataW H → Nat
  | .lit (.string bytes) => bytes.length + 1
  | .lit _ => 1
  | .nil => 1
  | .ptr d => uptoBulk d + 1
  | .slice elems spare => uptoBulkAll elems + uptoBulkAll spare + 1
  | .agg parts => uptoBulkAll parts + 1
  | .iface _ d => uptoBulk d + 1
  | .map entries => uptoBulkEntries entries + 1
  | .held _ => 1
def uptoBulkAll {H : Type} : List (DataW H) → Nat
  | [] => 0
  | d :: r => uptoBulk d + uptoBulkAll r
def uptoBulkEntries {H : Type} : List (Lit × DataW H) → Nat
  | [] => 0
  | x :: r => uptoBulkEntry x + uptoBulkEntries r
def uptoBulkEntry {H : Type} : Lit × DataW H → Nat
  | (.string bytes, d) => bytes.length + uptoBulk d + 1
  | (_, d) => uptoBulk d + 1
 end
def uptoSmall : (H : Type) → List (DataW H) → Bool := fun _ ds => decide (uptoBulkAll ds ≤ 1048576)
def OpenSpec.upto (s : _root_.Go.ChangeSpec) : _root_.Go.OpenSpec := { _root_.Go.OpenSpec.ofChange s with cond := some uptoSmall }

/-- 'turnstilelaw.SweepSteps', WHERE WHAT IT READS IS OF BULK AT MOST 1048576: true; the input reads as it did. -/
def sweepStepsUptoRow : OpenClaim := { program := "ytdbilofhcadmoac", sum := "24d0d4c229a80f36c501f4ec047cc720da3b5451152381d6a0ff74b6628dc68b", func := "turnstile/turnstilelaw.SweepSteps", spec := "sweepSteps", unfollowed := true, recurses := true, plainKeys := false, apart := false, narrowed := true }
def SweepStepsUptoSaid : Prop := sweepStepsUptoRow.holds Try.pinned (OpenSpec.upto sweepStepsSpec)

/-- 'turnstilelaw.SweepAlone', WHERE WHAT IT READS IS OF BULK AT MOST 1048576: true; the input reads as it did. -/
def sweepAloneUptoRow : OpenClaim := { program := "ytdbilofhcadmoac", sum := "24d0d4c229a80f36c501f4ec047cc720da3b5451152381d6a0ff74b6628dc68b", func := "turnstile/turnstilelaw.SweepAlone", spec := "sweepAlone", unfollowed := true, recurses := true, plainKeys := false, apart := false, narrowed := true }
def SweepAloneUptoSaid : Prop := sweepAloneUptoRow.holds Try.pinned (OpenSpec.upto sweepAloneSpec)

/-- 'turnstilelaw.SweepTouches', WHERE WHAT IT READS IS OF BULK AT MOST 1048576: true; the input reads as it did. -/
def sweepTouchesUptoRow : OpenClaim := { program := "ytdbilofhcadmoac", sum := "24d0d4c229a80f36c501f4ec047cc720da3b5451152381d6a0ff74b6628dc68b", func := "turnstile/turnstilelaw.SweepTouches", spec := "sweepTouches", unfollowed := true, recurses := true, plainKeys := false, apart := false, narrowed := true }
def SweepTouchesUptoSaid : Prop := sweepTouchesUptoRow.holds Try.pinned (OpenSpec.upto sweepTouchesSpec)

end Rows
end Go.Proofs.Ytdbilofhcadmoac
