/-
  No cell of these rows narrows 'for every input' (looked for: loops, veiled, ifaces, maps, wideKeys, modest, calm, conditions, laid).
  DERIVED. THE GIVEN ROWS OF THIS SEAT. 12 by the template 'for every input the law returns true; each argument reads behind the call as it read before'; 0 by the template 'total and deterministic' (their statements: YtdbilofhcadmoabTotals.lean).
  GIVEN WITH THE SEED: the statements are not yours to turn. If you find one false, say at which input.
  Laid BY PROGRAM, IN A SANDBOX (cutbox-rows.mjs): the forced cells as the released guide's own fill.sh prints them over the translation f3ebecb9029826d7… (all of the seat's roots in one cut). By AI agents, Wed Nov 11 2026. No macro, syntax, notation, axiom, sorry.
-/
import Derived.Test.YtdbilofhcadmoabChecked
import GoSem.Claim
import GoSem.ClaimJoined
import GoSem.ClaimMapViews
import Derived.JoinedTies
import Derived.KernelRfl
namespace Go.Proofs.Ytdbilofhcadmoab
/- THE CELL 'sum', in the pinned program and in every row, IS THE sha256 OF THE DUMP (.gsa) THAT YtdbilofhcadmoabProg.lean LOADS. Nothing in Lean hashes anything: it is a label: what it is worth is what the hold of that sum in a sandbox is worth. -/
noncomputable def Try.pinned : Pinned := { name := "ytdbilofhcadmoab", sum := "f3ebecb9029826d7be573f4a5ca4682f1aae8d82b2f720ef9bc28db4476a5d80", checked := Try.checked }
namespace Rows
def none {H : Type} : Left H := { results := [], args := [] }

/-- 'turnstilelaw.ChainApart': WHATEVER THE INPUT: true; the input reads as it did. -/
def chainApartSpec : ChangeSpec := { name := "chainApart", fn := fun _ => fun
  | [d1, d2] => { results := [.lit (.bool true)], args := [d1, d2] }
  | _ => none }
def chainApartRow : OpenClaim := { program := "ytdbilofhcadmoab", sum := "f3ebecb9029826d7be573f4a5ca4682f1aae8d82b2f720ef9bc28db4476a5d80", func := "turnstile/turnstilelaw.ChainApart", spec := "chainApart", unfollowed := true, recurses := true, plainKeys := false, apart := false }
def ChainApartSaid : Prop := chainApartRow.holds Try.pinned (OpenSpec.ofChange chainApartSpec)

/-- ITS FALSE NEIGHBOUR: 'it returns false'. Refute it at one input. -/
def chainApartWrong : ChangeSpec := { name := "chainApart", fn := fun _ => fun
  | [d1, d2] => { results := [.lit (.bool false)], args := [d1, d2] }
  | _ => none }
def ChainApartWrongFalsely : Prop := chainApartRow.holds Try.pinned (OpenSpec.ofChange chainApartWrong)

/-- 'turnstilelaw.FrameTells': WHATEVER THE INPUT: true; the input reads as it did. -/
def frameTellsSpec : ChangeSpec := { name := "frameTells", fn := fun _ => fun
  | [d1, d2, d3, d4] => { results := [.lit (.bool true)], args := [d1, d2, d3, d4] }
  | _ => none }
def frameTellsRow : OpenClaim := { program := "ytdbilofhcadmoab", sum := "f3ebecb9029826d7be573f4a5ca4682f1aae8d82b2f720ef9bc28db4476a5d80", func := "turnstile/turnstilelaw.FrameTells", spec := "frameTells", plainKeys := false, apart := false }
def FrameTellsSaid : Prop := frameTellsRow.holds Try.pinned (OpenSpec.ofChange frameTellsSpec)

/-- ITS FALSE NEIGHBOUR: 'it returns false'. Refute it at one input. -/
def frameTellsWrong : ChangeSpec := { name := "frameTells", fn := fun _ => fun
  | [d1, d2, d3, d4] => { results := [.lit (.bool false)], args := [d1, d2, d3, d4] }
  | _ => none }
def FrameTellsWrongFalsely : Prop := frameTellsRow.holds Try.pinned (OpenSpec.ofChange frameTellsWrong)

/-- 'turnstilelaw.FrameBegins': WHATEVER THE INPUT: true; the input reads as it did. -/
def frameBeginsSpec : ChangeSpec := { name := "frameBegins", fn := fun _ => fun
  | [d1, d2] => { results := [.lit (.bool true)], args := [d1, d2] }
  | _ => none }
def frameBeginsRow : OpenClaim := { program := "ytdbilofhcadmoab", sum := "f3ebecb9029826d7be573f4a5ca4682f1aae8d82b2f720ef9bc28db4476a5d80", func := "turnstile/turnstilelaw.FrameBegins", spec := "frameBegins", plainKeys := false, apart := false }
def FrameBeginsSaid : Prop := frameBeginsRow.holds Try.pinned (OpenSpec.ofChange frameBeginsSpec)

/-- ITS FALSE NEIGHBOUR: 'it returns false'. Refute it at one input. -/
def frameBeginsWrong : ChangeSpec := { name := "frameBegins", fn := fun _ => fun
  | [d1, d2] => { results := [.lit (.bool false)], args := [d1, d2] }
  | _ => none }
def FrameBeginsWrongFalsely : Prop := frameBeginsRow.holds Try.pinned (OpenSpec.ofChange frameBeginsWrong)

/-- 'turnstilelaw.LookSteps': WHATEVER THE INPUT: true; the input reads as it did. -/
def lookStepsSpec : ChangeSpec := { name := "lookSteps", fn := fun _ => fun
  | [d1, d2] => { results := [.lit (.bool true)], args := [d1, d2] }
  | _ => none }
def lookStepsRow : OpenClaim := { program := "ytdbilofhcadmoab", sum := "f3ebecb9029826d7be573f4a5ca4682f1aae8d82b2f720ef9bc28db4476a5d80", func := "turnstile/turnstilelaw.LookSteps", spec := "lookSteps", unfollowed := true, recurses := true, plainKeys := false, apart := false }
def LookStepsSaid : Prop := lookStepsRow.holds Try.pinned (OpenSpec.ofChange lookStepsSpec)

/-- ITS FALSE NEIGHBOUR: 'it returns false'. Refute it at one input. -/
def lookStepsWrong : ChangeSpec := { name := "lookSteps", fn := fun _ => fun
  | [d1, d2] => { results := [.lit (.bool false)], args := [d1, d2] }
  | _ => none }
def LookStepsWrongFalsely : Prop := lookStepsRow.holds Try.pinned (OpenSpec.ofChange lookStepsWrong)

/-- 'turnstilelaw.LookAlone': WHATEVER THE INPUT: true; the input reads as it did. -/
def lookAloneSpec : ChangeSpec := { name := "lookAlone", fn := fun _ => fun
  | [d1, d2] => { results := [.lit (.bool true)], args := [d1, d2] }
  | _ => none }
def lookAloneRow : OpenClaim := { program := "ytdbilofhcadmoab", sum := "f3ebecb9029826d7be573f4a5ca4682f1aae8d82b2f720ef9bc28db4476a5d80", func := "turnstile/turnstilelaw.LookAlone", spec := "lookAlone", unfollowed := true, recurses := true, plainKeys := false, apart := false }
def LookAloneSaid : Prop := lookAloneRow.holds Try.pinned (OpenSpec.ofChange lookAloneSpec)

/-- ITS FALSE NEIGHBOUR: 'it returns false'. Refute it at one input. -/
def lookAloneWrong : ChangeSpec := { name := "lookAlone", fn := fun _ => fun
  | [d1, d2] => { results := [.lit (.bool false)], args := [d1, d2] }
  | _ => none }
def LookAloneWrongFalsely : Prop := lookAloneRow.holds Try.pinned (OpenSpec.ofChange lookAloneWrong)

/-- 'turnstilelaw.LookTouches': WHATEVER THE INPUT: true; the input reads as it did. -/
def lookTouchesSpec : ChangeSpec := { name := "lookTouches", fn := fun _ => fun
  | [d1, d2] => { results := [.lit (.bool true)], args := [d1, d2] }
  | _ => none }
def lookTouchesRow : OpenClaim := { program := "ytdbilofhcadmoab", sum := "f3ebecb9029826d7be573f4a5ca4682f1aae8d82b2f720ef9bc28db4476a5d80", func := "turnstile/turnstilelaw.LookTouches", spec := "lookTouches", unfollowed := true, recurses := true, plainKeys := false, apart := false }
def LookTouchesSaid : Prop := lookTouchesRow.holds Try.pinned (OpenSpec.ofChange lookTouchesSpec)

/-- ITS FALSE NEIGHBOUR: 'it returns false'. Refute it at one input. -/
def lookTouchesWrong : ChangeSpec := { name := "lookTouches", fn := fun _ => fun
  | [d1, d2] => { results := [.lit (.bool false)], args := [d1, d2] }
  | _ => none }
def LookTouchesWrongFalsely : Prop := lookTouchesRow.holds Try.pinned (OpenSpec.ofChange lookTouchesWrong)

/-- 'turnstilelaw.AddSteps': WHATEVER THE INPUT: true; the input reads as it did. -/
def addStepsSpec : ChangeSpec := { name := "addSteps", fn := fun _ => fun
  | [d1, d2, d3] => { results := [.lit (.bool true)], args := [d1, d2, d3] }
  | _ => none }
def addStepsRow : OpenClaim := { program := "ytdbilofhcadmoab", sum := "f3ebecb9029826d7be573f4a5ca4682f1aae8d82b2f720ef9bc28db4476a5d80", func := "turnstile/turnstilelaw.AddSteps", spec := "addSteps", unfollowed := true, recurses := true, plainKeys := false, apart := false }
def AddStepsSaid : Prop := addStepsRow.holds Try.pinned (OpenSpec.ofChange addStepsSpec)

/-- ITS FALSE NEIGHBOUR: 'it returns false'. Refute it at one input. -/
def addStepsWrong : ChangeSpec := { name := "addSteps", fn := fun _ => fun
  | [d1, d2, d3] => { results := [.lit (.bool false)], args := [d1, d2, d3] }
  | _ => none }
def AddStepsWrongFalsely : Prop := addStepsRow.holds Try.pinned (OpenSpec.ofChange addStepsWrong)

/-- 'turnstilelaw.AddAlone': WHATEVER THE INPUT: true; the input reads as it did. -/
def addAloneSpec : ChangeSpec := { name := "addAlone", fn := fun _ => fun
  | [d1, d2, d3] => { results := [.lit (.bool true)], args := [d1, d2, d3] }
  | _ => none }
def addAloneRow : OpenClaim := { program := "ytdbilofhcadmoab", sum := "f3ebecb9029826d7be573f4a5ca4682f1aae8d82b2f720ef9bc28db4476a5d80", func := "turnstile/turnstilelaw.AddAlone", spec := "addAlone", unfollowed := true, recurses := true, plainKeys := false, apart := false }
def AddAloneSaid : Prop := addAloneRow.holds Try.pinned (OpenSpec.ofChange addAloneSpec)

/-- ITS FALSE NEIGHBOUR: 'it returns false'. Refute it at one input. -/
def addAloneWrong : ChangeSpec := { name := "addAlone", fn := fun _ => fun
  | [d1, d2, d3] => { results := [.lit (.bool false)], args := [d1, d2, d3] }
  | _ => none }
def AddAloneWrongFalsely : Prop := addAloneRow.holds Try.pinned (OpenSpec.ofChange addAloneWrong)

/-- 'turnstilelaw.AddTouches': WHATEVER THE INPUT: true; the input reads as it did. -/
def addTouchesSpec : ChangeSpec := { name := "addTouches", fn := fun _ => fun
  | [d1, d2, d3] => { results := [.lit (.bool true)], args := [d1, d2, d3] }
  | _ => none }
def addTouchesRow : OpenClaim := { program := "ytdbilofhcadmoab", sum := "f3ebecb9029826d7be573f4a5ca4682f1aae8d82b2f720ef9bc28db4476a5d80", func := "turnstile/turnstilelaw.AddTouches", spec := "addTouches", unfollowed := true, recurses := true, plainKeys := false, apart := false }
def AddTouchesSaid : Prop := addTouchesRow.holds Try.pinned (OpenSpec.ofChange addTouchesSpec)

/-- ITS FALSE NEIGHBOUR: 'it returns false'. Refute it at one input. -/
def addTouchesWrong : ChangeSpec := { name := "addTouches", fn := fun _ => fun
  | [d1, d2, d3] => { results := [.lit (.bool false)], args := [d1, d2, d3] }
  | _ => none }
def AddTouchesWrongFalsely : Prop := addTouchesRow.holds Try.pinned (OpenSpec.ofChange addTouchesWrong)

/-- 'turnstilelaw.DropSteps': WHATEVER THE INPUT: true; the input reads as it did. -/
def dropStepsSpec : ChangeSpec := { name := "dropSteps", fn := fun _ => fun
  | [d1, d2, d3] => { results := [.lit (.bool true)], args := [d1, d2, d3] }
  | _ => none }
def dropStepsRow : OpenClaim := { program := "ytdbilofhcadmoab", sum := "f3ebecb9029826d7be573f4a5ca4682f1aae8d82b2f720ef9bc28db4476a5d80", func := "turnstile/turnstilelaw.DropSteps", spec := "dropSteps", unfollowed := true, recurses := true, plainKeys := false, apart := false }
def DropStepsSaid : Prop := dropStepsRow.holds Try.pinned (OpenSpec.ofChange dropStepsSpec)

/-- ITS FALSE NEIGHBOUR: 'it returns false'. Refute it at one input. -/
def dropStepsWrong : ChangeSpec := { name := "dropSteps", fn := fun _ => fun
  | [d1, d2, d3] => { results := [.lit (.bool false)], args := [d1, d2, d3] }
  | _ => none }
def DropStepsWrongFalsely : Prop := dropStepsRow.holds Try.pinned (OpenSpec.ofChange dropStepsWrong)

/-- 'turnstilelaw.DropAlone': WHATEVER THE INPUT: true; the input reads as it did. -/
def dropAloneSpec : ChangeSpec := { name := "dropAlone", fn := fun _ => fun
  | [d1, d2] => { results := [.lit (.bool true)], args := [d1, d2] }
  | _ => none }
def dropAloneRow : OpenClaim := { program := "ytdbilofhcadmoab", sum := "f3ebecb9029826d7be573f4a5ca4682f1aae8d82b2f720ef9bc28db4476a5d80", func := "turnstile/turnstilelaw.DropAlone", spec := "dropAlone", unfollowed := true, recurses := true, plainKeys := false, apart := false }
def DropAloneSaid : Prop := dropAloneRow.holds Try.pinned (OpenSpec.ofChange dropAloneSpec)

/-- ITS FALSE NEIGHBOUR: 'it returns false'. Refute it at one input. -/
def dropAloneWrong : ChangeSpec := { name := "dropAlone", fn := fun _ => fun
  | [d1, d2] => { results := [.lit (.bool false)], args := [d1, d2] }
  | _ => none }
def DropAloneWrongFalsely : Prop := dropAloneRow.holds Try.pinned (OpenSpec.ofChange dropAloneWrong)

/-- 'turnstilelaw.DropTouches': WHATEVER THE INPUT: true; the input reads as it did. -/
def dropTouchesSpec : ChangeSpec := { name := "dropTouches", fn := fun _ => fun
  | [d1, d2, d3] => { results := [.lit (.bool true)], args := [d1, d2, d3] }
  | _ => none }
def dropTouchesRow : OpenClaim := { program := "ytdbilofhcadmoab", sum := "f3ebecb9029826d7be573f4a5ca4682f1aae8d82b2f720ef9bc28db4476a5d80", func := "turnstile/turnstilelaw.DropTouches", spec := "dropTouches", unfollowed := true, recurses := true, plainKeys := false, apart := false }
def DropTouchesSaid : Prop := dropTouchesRow.holds Try.pinned (OpenSpec.ofChange dropTouchesSpec)

/-- ITS FALSE NEIGHBOUR: 'it returns false'. Refute it at one input. -/
def dropTouchesWrong : ChangeSpec := { name := "dropTouches", fn := fun _ => fun
  | [d1, d2, d3] => { results := [.lit (.bool false)], args := [d1, d2, d3] }
  | _ => none }
def DropTouchesWrongFalsely : Prop := dropTouchesRow.holds Try.pinned (OpenSpec.ofChange dropTouchesWrong)

/- THE SECOND FORM. 'bulk': how many values and letters a reading holds, each counted each time it is reached (what is shared counts as often as it is met; a slice's spare places count too). A statement '..UptoSaid' is the law's where the arguments, and the package variables that the reading takes, are together of bulk at most 1048576: NARROWER than '..Said'. Prove '..Said' where nothing that the law and all that it calls make is longer than what came in: it says more and counts as full. Else prove '..UptoSaid'. A law counts once. -/
mutual
def uptoBulk {H : Type} : DataW H → Nat
  | .lit (.string bytes) => bytes.length + 1
  | .lit _ => 1
  | .nil => 1
  | .ptr d => uptoBulk d + 1
  | .slice elems spare => uptoBulkAll elems + uptoBulkAll spare + 1
  | .agg parts => uptoBulkAll parts + 1
  | .iface _ d => uptoBulk d + 1
  | .map entries => uptoBulkEntries entries + 1
  | .held _ => 1
def uptoBulkAll {H : Type} : List (DataW H) → Nat
  | [] => 0
  | d :: r => uptoBulk d + uptoBulkAll r
def uptoBulkEntries {H : Type} : List (Lit × DataW H) → Nat
  | [] => 0
  | x :: r => uptoBulkEntry x + uptoBulkEntries r
def uptoBulkEntry {H : Type} : Lit × DataW H → Nat
  | (.string bytes, d) => bytes.length + uptoBulk d + 1
  | (_, d) => uptoBulk d + 1
 end
def uptoSmall : (H : Type) → List (DataW H) → Bool := fun _ ds => decide (uptoBulkAll ds ≤ 1048576)
def OpenSpec.upto (s : _root_.Go.ChangeSpec) : _root_.Go.OpenSpec := { _root_.Go.OpenSpec.ofChange s with cond := some uptoSmall }

/-- 'turnstilelaw.ChainApart', WHERE WHAT IT READS IS OF BULK AT MOST 1048576: true; the input reads as it did. -/
def chainApartUptoRow : OpenClaim := { program := "ytdbilofhcadmoab", sum := "f3ebecb9029826d7be573f4a5ca4682f1aae8d82b2f720ef9bc28db4476a5d80", func := "turnstile/turnstilelaw.ChainApart", spec := "chainApart", unfollowed := true, recurses := true, plainKeys := false, apart := false, narrowed := true }
def ChainApartUptoSaid : Prop := chainApartUptoRow.holds Try.pinned (OpenSpec.upto chainApartSpec)

/-- 'turnstilelaw.FrameTells', WHERE WHAT IT READS IS OF BULK AT MOST 1048576: true; the input reads as it did. -/
def frameTellsUptoRow : OpenClaim := { program := "ytdbilofhcadmoab", sum := "f3ebecb9029826d7be573f4a5ca4682f1aae8d82b2f720ef9bc28db4476a5d80", func := "turnstile/turnstilelaw.FrameTells", spec := "frameTells", plainKeys := false, apart := false, narrowed := true }
def FrameTellsUptoSaid : Prop := frameTellsUptoRow.holds Try.pinned (OpenSpec.upto frameTellsSpec)

/-- 'turnstilelaw.FrameBegins', WHERE WHAT IT READS IS OF BULK AT MOST 1048576: true; the input reads as it did. -/
def frameBeginsUptoRow : OpenClaim := { program := "ytdbilofhcadmoab", sum := "f3ebecb9029826d7be573f4a5ca4682f1aae8d82b2f720ef9bc28db4476a5d80", func := "turnstile/turnstilelaw.FrameBegins", spec := "frameBegins", plainKeys := false, apart := false, narrowed := true }
def FrameBeginsUptoSaid : Prop := frameBeginsUptoRow.holds Try.pinned (OpenSpec.upto frameBeginsSpec)

/-- 'turnstilelaw.LookSteps', WHERE WHAT IT READS IS OF BULK AT MOST 1048576: true; the input reads as it did. -/
def lookStepsUptoRow : OpenClaim := { program := "ytdbilofhcadmoab", sum := "f3ebecb9029826d7be573f4a5ca4682f1aae8d82b2f720ef9bc28db4476a5d80", func := "turnstile/turnstilelaw.LookSteps", spec := "lookSteps", unfollowed := true, recurses := true, plainKeys := false, apart := false, narrowed := true }
def LookStepsUptoSaid : Prop := lookStepsUptoRow.holds Try.pinned (OpenSpec.upto lookStepsSpec)

/-- 'turnstilelaw.LookAlone', WHERE WHAT IT READS IS OF BULK AT MOST 1048576: true; the input reads as it did. -/
def lookAloneUptoRow : OpenClaim := { program := "ytdbilofhcadmoab", sum := "f3ebecb9029826d7be573f4a5ca4682f1aae8d82b2f720ef9bc28db4476a5d80", func := "turnstile/turnstilelaw.LookAlone", spec := "lookAlone", unfollowed := true, recurses := true, plainKeys := false, apart := false, narrowed := true }
def LookAloneUptoSaid : Prop := lookAloneUptoRow.holds Try.pinned (OpenSpec.upto lookAloneSpec)

/-- 'turnstilelaw.LookTouches', WHERE WHAT IT READS IS OF BULK AT MOST 1048576: true; the input reads as it did. -/
def lookTouchesUptoRow : OpenClaim := { program := "ytdbilofhcadmoab", sum := "f3ebecb9029826d7be573f4a5ca4682f1aae8d82b2f720ef9bc28db4476a5d80", func := "turnstile/turnstilelaw.LookTouches", spec := "lookTouches", unfollowed := true, recurses := true, plainKeys := false, apart := false, narrowed := true }
def LookTouchesUptoSaid : Prop := lookTouchesUptoRow.holds Try.pinned (OpenSpec.upto lookTouchesSpec)

/-- 'turnstilelaw.AddSteps', WHERE WHAT IT READS IS OF BULK AT MOST 1048576: true; the input reads as it did. -/
def addStepsUptoRow : OpenClaim := { program := "ytdbilofhcadmoab", sum := "f3ebecb9029826d7be573f4a5ca4682f1aae8d82b2f720ef9bc28db4476a5d80", func := "turnstile/turnstilelaw.AddSteps", spec := "addSteps", unfollowed := true, recurses := true, plainKeys := false, apart := false, narrowed := true }
def AddStepsUptoSaid : Prop := addStepsUptoRow.holds Try.pinned (OpenSpec.upto addStepsSpec)

/-- 'turnstilelaw.AddAlone', WHERE WHAT IT READS IS OF BULK AT MOST 1048576: true; the input reads as it did. -/
def addAloneUptoRow : OpenClaim := { program := "ytdbilofhcadmoab", sum := "f3ebecb9029826d7be573f4a5ca4682f1aae8d82b2f720ef9bc28db4476a5d80", func := "turnstile/turnstilelaw.AddAlone", spec := "addAlone", unfollowed := true, recurses := true, plainKeys := false, apart := false, narrowed := true }
def AddAloneUptoSaid : Prop := addAloneUptoRow.holds Try.pinned (OpenSpec.upto addAloneSpec)

/-- 'turnstilelaw.AddTouches', WHERE WHAT IT READS IS OF BULK AT MOST 1048576: true; the input reads as it did. -/
def addTouchesUptoRow : OpenClaim := { program := "ytdbilofhcadmoab", sum := "f3ebecb9029826d7be573f4a5ca4682f1aae8d82b2f720ef9bc28db4476a5d80", func := "turnstile/turnstilelaw.AddTouches", spec := "addTouches", unfollowed := true, recurses := true, plainKeys := false, apart := false, narrowed := true }
def AddTouchesUptoSaid : Prop := addTouchesUptoRow.holds Try.pinned (OpenSpec.upto addTouchesSpec)

/-- 'turnstilelaw.DropSteps', WHERE WHAT IT READS IS OF BULK AT MOST 1048576: true; the input reads as it did. -/
def dropStepsUptoRow : OpenClaim := { program := "ytdbilofhcadmoab", sum := "f3ebecb9029826d7be573f4a5ca4682f1aae8d82b2f720ef9bc28db4476a5d80", func := "turnstile/turnstilelaw.DropSteps", spec := "dropSteps", unfollowed := true, recurses := true, plainKeys := false, apart := false, narrowed := true }
def DropStepsUptoSaid : Prop := dropStepsUptoRow.holds Try.pinned (OpenSpec.upto dropStepsSpec)

/-- 'turnstilelaw.DropAlone', WHERE WHAT IT READS IS OF BULK AT MOST 1048576: true; the input reads as it did. -/
def dropAloneUptoRow : OpenClaim := { program := "ytdbilofhcadmoab", sum := "f3ebecb9029826d7be573f4a5ca4682f1aae8d82b2f720ef9bc28db4476a5d80", func := "turnstile/turnstilelaw.DropAlone", spec := "dropAlone", unfollowed := true, recurses := true, plainKeys := false, apart := false, narrowed := true }
def DropAloneUptoSaid : Prop := dropAloneUptoRow.holds Try.pinned (OpenSpec.upto dropAloneSpec)

/-- 'turnstilelaw.DropTouches', WHERE WHAT IT READS IS OF BULK AT MOST 1048576: true; the input reads as it did. -/
def dropTouchesUptoRow : OpenClaim := { program := "ytdbilofhcadmoab", sum := "f3ebecb9029826d7be573f4a5ca4682f1aae8d82b2f720ef9bc28db4476a5d80", func := "turnstile/turnstilelaw.DropTouches", spec := "dropTouches", unfollowed := true, recurses := true, plainKeys := false, apart := false, narrowed := true }
def DropTouchesUptoSaid : Prop := dropTouchesUptoRow.holds Try.pinned (OpenSpec.upto dropTouchesSpec)

end Rows
end Go.Proofs.Ytdbilofhcadmoab
