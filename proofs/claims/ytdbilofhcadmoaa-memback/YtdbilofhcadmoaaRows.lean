/-
  No cell of these rows narrows 'for every input' (looked for: loops, veiled, ifaces, maps, wideKeys, modest, calm, conditions, laid).
  DERIVED. THE GIVEN ROWS OF THIS SEAT. 9 by the template 'for every input the law returns true; each argument reads behind the call as it read before'; 0 by the template 'total and deterministic' (their statements: YtdbilofhcadmoaaTotals.lean).
  GIVEN WITH THE SEED: the statements are not yours to turn. If you find one false, say at which input.
  Laid BY PROGRAM, IN A SANDBOX (cutbox-rows.mjs): the forced cells as the released guide's own fill.sh prints them over the translation 139613eca1c83214… (all of the seat's roots in one cut). By AI agents, Wed Nov 11 2026. No macro, syntax, notation, axiom, sorry.
-/
import Derived.Test.YtdbilofhcadmoaaChecked
import GoSem.Claim
import GoSem.ClaimJoined
import GoSem.ClaimMapViews
import Derived.JoinedTies
import Derived.KernelRfl
namespace Go.Proofs.Ytdbilofhcadmoaa
/- THE CELL 'sum', in the pinned program and in every row, IS THE sha256 OF THE DUMP (.gsa) THAT YtdbilofhcadmoaaProg.lean LOADS. Nothing in Lean hashes anything: it is a label: what it is worth is what the hold of that sum in a sandbox is worth. -/
noncomputable def Try.pinned : Pinned := { name := "ytdbilofhcadmoaa", sum := "139613eca1c83214b12c4cf4bfc01d5f4ae5a03a12da5fa9d7147013d230e00c", checked := Try.checked }
namespace Rows
def none {H : Type} : Left H := { results := [], args := [] }

/-- 'turnstilelaw.Names': WHATEVER THE INPUT: true; the input reads as it did. -/
def namesSpec : ChangeSpec := { name := "names", fn := fun _ => fun
  | [] => { results := [.lit (.bool true)], args := [] }
  | _ => none }
def namesRow : OpenClaim := { program := "ytdbilofhcadmoaa", sum := "139613eca1c83214b12c4cf4bfc01d5f4ae5a03a12da5fa9d7147013d230e00c", func := "turnstile/turnstilelaw.Names", spec := "names", plainKeys := false, apart := false }
def NamesSaid : Prop := namesRow.holds Try.pinned (OpenSpec.ofChange namesSpec)

/-- ITS FALSE NEIGHBOUR: 'it returns false'. Refute it at one input. -/
def namesWrong : ChangeSpec := { name := "names", fn := fun _ => fun
  | [] => { results := [.lit (.bool false)], args := [] }
  | _ => none }
def NamesWrongFalsely : Prop := namesRow.holds Try.pinned (OpenSpec.ofChange namesWrong)

/-- 'turnstilelaw.MemTells': WHATEVER THE INPUT: true; the input reads as it did. -/
def memTellsSpec : ChangeSpec := { name := "memTells", fn := fun _ => fun
  | [d1, d2, d3, d4] => { results := [.lit (.bool true)], args := [d1, d2, d3, d4] }
  | _ => none }
def memTellsRow : OpenClaim := { program := "ytdbilofhcadmoaa", sum := "139613eca1c83214b12c4cf4bfc01d5f4ae5a03a12da5fa9d7147013d230e00c", func := "turnstile/turnstilelaw.MemTells", spec := "memTells", unfollowed := true, recurses := true, plainKeys := false, apart := false }
def MemTellsSaid : Prop := memTellsRow.holds Try.pinned (OpenSpec.ofChange memTellsSpec)

/-- ITS FALSE NEIGHBOUR: 'it returns false'. Refute it at one input. -/
def memTellsWrong : ChangeSpec := { name := "memTells", fn := fun _ => fun
  | [d1, d2, d3, d4] => { results := [.lit (.bool false)], args := [d1, d2, d3, d4] }
  | _ => none }
def MemTellsWrongFalsely : Prop := memTellsRow.holds Try.pinned (OpenSpec.ofChange memTellsWrong)

/-- 'turnstilelaw.MemTakes': WHATEVER THE INPUT: true; the input reads as it did. -/
def memTakesSpec : ChangeSpec := { name := "memTakes", fn := fun _ => fun
  | [d1, d2, d3, d4] => { results := [.lit (.bool true)], args := [d1, d2, d3, d4] }
  | _ => none }
def memTakesRow : OpenClaim := { program := "ytdbilofhcadmoaa", sum := "139613eca1c83214b12c4cf4bfc01d5f4ae5a03a12da5fa9d7147013d230e00c", func := "turnstile/turnstilelaw.MemTakes", spec := "memTakes", unfollowed := true, recurses := true, plainKeys := false, apart := false }
def MemTakesSaid : Prop := memTakesRow.holds Try.pinned (OpenSpec.ofChange memTakesSpec)

/-- ITS FALSE NEIGHBOUR: 'it returns false'. Refute it at one input. -/
def memTakesWrong : ChangeSpec := { name := "memTakes", fn := fun _ => fun
  | [d1, d2, d3, d4] => { results := [.lit (.bool false)], args := [d1, d2, d3, d4] }
  | _ => none }
def MemTakesWrongFalsely : Prop := memTakesRow.holds Try.pinned (OpenSpec.ofChange memTakesWrong)

/-- 'turnstilelaw.MemBack': WHATEVER THE INPUT: true; the input reads as it did. -/
def memBackSpec : ChangeSpec := { name := "memBack", fn := fun _ => fun
  | [d1, d2, d3, d4] => { results := [.lit (.bool true)], args := [d1, d2, d3, d4] }
  | _ => none }
def memBackRow : OpenClaim := { program := "ytdbilofhcadmoaa", sum := "139613eca1c83214b12c4cf4bfc01d5f4ae5a03a12da5fa9d7147013d230e00c", func := "turnstile/turnstilelaw.MemBack", spec := "memBack", unfollowed := true, recurses := true, plainKeys := false, apart := false }
def MemBackSaid : Prop := memBackRow.holds Try.pinned (OpenSpec.ofChange memBackSpec)

/-- ITS FALSE NEIGHBOUR: 'it returns false'. Refute it at one input. -/
def memBackWrong : ChangeSpec := { name := "memBack", fn := fun _ => fun
  | [d1, d2, d3, d4] => { results := [.lit (.bool false)], args := [d1, d2, d3, d4] }
  | _ => none }
def MemBackWrongFalsely : Prop := memBackRow.holds Try.pinned (OpenSpec.ofChange memBackWrong)

/-- 'turnstilelaw.MemFull': WHATEVER THE INPUT: true; the input reads as it did. -/
def memFullSpec : ChangeSpec := { name := "memFull", fn := fun _ => fun
  | [d1, d2, d3] => { results := [.lit (.bool true)], args := [d1, d2, d3] }
  | _ => none }
def memFullRow : OpenClaim := { program := "ytdbilofhcadmoaa", sum := "139613eca1c83214b12c4cf4bfc01d5f4ae5a03a12da5fa9d7147013d230e00c", func := "turnstile/turnstilelaw.MemFull", spec := "memFull", unfollowed := true, recurses := true, plainKeys := false, apart := false }
def MemFullSaid : Prop := memFullRow.holds Try.pinned (OpenSpec.ofChange memFullSpec)

/-- ITS FALSE NEIGHBOUR: 'it returns false'. Refute it at one input. -/
def memFullWrong : ChangeSpec := { name := "memFull", fn := fun _ => fun
  | [d1, d2, d3] => { results := [.lit (.bool false)], args := [d1, d2, d3] }
  | _ => none }
def MemFullWrongFalsely : Prop := memFullRow.holds Try.pinned (OpenSpec.ofChange memFullWrong)

/-- 'turnstilelaw.MemOften': WHATEVER THE INPUT: true; the input reads as it did. -/
def memOftenSpec : ChangeSpec := { name := "memOften", fn := fun _ => fun
  | [d1, d2, d3] => { results := [.lit (.bool true)], args := [d1, d2, d3] }
  | _ => none }
def memOftenRow : OpenClaim := { program := "ytdbilofhcadmoaa", sum := "139613eca1c83214b12c4cf4bfc01d5f4ae5a03a12da5fa9d7147013d230e00c", func := "turnstile/turnstilelaw.MemOften", spec := "memOften", unfollowed := true, recurses := true, plainKeys := false, apart := false }
def MemOftenSaid : Prop := memOftenRow.holds Try.pinned (OpenSpec.ofChange memOftenSpec)

/-- ITS FALSE NEIGHBOUR: 'it returns false'. Refute it at one input. -/
def memOftenWrong : ChangeSpec := { name := "memOften", fn := fun _ => fun
  | [d1, d2, d3] => { results := [.lit (.bool false)], args := [d1, d2, d3] }
  | _ => none }
def MemOftenWrongFalsely : Prop := memOftenRow.holds Try.pinned (OpenSpec.ofChange memOftenWrong)

/-- 'turnstilelaw.ChainTells': WHATEVER THE INPUT: true; the input reads as it did. -/
def chainTellsSpec : ChangeSpec := { name := "chainTells", fn := fun _ => fun
  | [d1, d2] => { results := [.lit (.bool true)], args := [d1, d2] }
  | _ => none }
def chainTellsRow : OpenClaim := { program := "ytdbilofhcadmoaa", sum := "139613eca1c83214b12c4cf4bfc01d5f4ae5a03a12da5fa9d7147013d230e00c", func := "turnstile/turnstilelaw.ChainTells", spec := "chainTells", unfollowed := true, recurses := true, plainKeys := false, apart := false }
def ChainTellsSaid : Prop := chainTellsRow.holds Try.pinned (OpenSpec.ofChange chainTellsSpec)

/-- ITS FALSE NEIGHBOUR: 'it returns false'. Refute it at one input. -/
def chainTellsWrong : ChangeSpec := { name := "chainTells", fn := fun _ => fun
  | [d1, d2] => { results := [.lit (.bool false)], args := [d1, d2] }
  | _ => none }
def ChainTellsWrongFalsely : Prop := chainTellsRow.holds Try.pinned (OpenSpec.ofChange chainTellsWrong)

/-- 'turnstilelaw.ChainLinks': WHATEVER THE INPUT: true; the input reads as it did. -/
def chainLinksSpec : ChangeSpec := { name := "chainLinks", fn := fun _ => fun
  | [d1, d2, d3] => { results := [.lit (.bool true)], args := [d1, d2, d3] }
  | _ => none }
def chainLinksRow : OpenClaim := { program := "ytdbilofhcadmoaa", sum := "139613eca1c83214b12c4cf4bfc01d5f4ae5a03a12da5fa9d7147013d230e00c", func := "turnstile/turnstilelaw.ChainLinks", spec := "chainLinks", unfollowed := true, recurses := true, plainKeys := false, apart := false }
def ChainLinksSaid : Prop := chainLinksRow.holds Try.pinned (OpenSpec.ofChange chainLinksSpec)

/-- ITS FALSE NEIGHBOUR: 'it returns false'. Refute it at one input. -/
def chainLinksWrong : ChangeSpec := { name := "chainLinks", fn := fun _ => fun
  | [d1, d2, d3] => { results := [.lit (.bool false)], args := [d1, d2, d3] }
  | _ => none }
def ChainLinksWrongFalsely : Prop := chainLinksRow.holds Try.pinned (OpenSpec.ofChange chainLinksWrong)

/-- 'turnstilelaw.ChainBack': WHATEVER THE INPUT: true; the input reads as it did. -/
def chainBackSpec : ChangeSpec := { name := "chainBack", fn := fun _ => fun
  | [d1, d2, d3] => { results := [.lit (.bool true)], args := [d1, d2, d3] }
  | _ => none }
def chainBackRow : OpenClaim := { program := "ytdbilofhcadmoaa", sum := "139613eca1c83214b12c4cf4bfc01d5f4ae5a03a12da5fa9d7147013d230e00c", func := "turnstile/turnstilelaw.ChainBack", spec := "chainBack", unfollowed := true, recurses := true, plainKeys := false, apart := false }
def ChainBackSaid : Prop := chainBackRow.holds Try.pinned (OpenSpec.ofChange chainBackSpec)

/-- ITS FALSE NEIGHBOUR: 'it returns false'. Refute it at one input. -/
def chainBackWrong : ChangeSpec := { name := "chainBack", fn := fun _ => fun
  | [d1, d2, d3] => { results := [.lit (.bool false)], args := [d1, d2, d3] }
  | _ => none }
def ChainBackWrongFalsely : Prop := chainBackRow.holds Try.pinned (OpenSpec.ofChange chainBackWrong)

/- THE SECOND FORM. 'bulk': how many values and letters a reading holds, each counted each time it is reached (what is shared counts as often as it is met; a slice's spare places count too). A statement '..UptoSaid' is the law's where the arguments, and the package variables that the reading takes, are together of bulk at most 1048576: NARROWER than '..Said'. Prove '..Said' where nothing that the law and all that it calls make is longer than what came in: it says more and counts as full. Else prove '..UptoSaid'. A law counts once. -/
mutual
def uptoBulk {H : Type} : DataW H → Nat
  | .lit (.string bytes) => bytes.length + 1
  | .lit _ => 1
  | .nil => 1
  | .ptr d => uptoBulk d + 1
  | .slice elems spare => uptoBulkAll elems + uptoBulkAll spare + 1
  | .agg parts => uptoBulkAll parts + 1
  | .iface _ d => uptoBulk d + 1
  | .map entries => uptoBulkEntries entries + 1
  | .held _ => 1
def uptoBulkAll {H : Type} : List (DataW H) → Nat
  | [] => 0
  | d :: r => uptoBulk d + uptoBulkAll r
def uptoBulkEntries {H : Type} : List (Lit × DataW H) → Nat
  | [] => 0
  | x :: r => uptoBulkEntry x + uptoBulkEntries r
def uptoBulkEntry {H : Type} : Lit × DataW H → Nat
  | (.string bytes, d) => bytes.length + uptoBulk d + 1
  | (_, d) => uptoBulk d + 1
 end
def uptoSmall : (H : Type) → List (DataW H) → Bool := fun _ ds => decide (uptoBulkAll ds ≤ 1048576)
def OpenSpec.upto (s : _root_.Go.ChangeSpec) : _root_.Go.OpenSpec := { _root_.Go.OpenSpec.ofChange s with cond := some uptoSmall }

/-- 'turnstilelaw.Names', WHERE WHAT IT READS IS OF BULK AT MOST 1048576: true; the input reads as it did. -/
def namesUptoRow : OpenClaim := { program := "ytdbilofhcadmoaa", sum := "139613eca1c83214b12c4cf4bfc01d5f4ae5a03a12da5fa9d7147013d230e00c", func := "turnstile/turnstilelaw.Names", spec := "names", plainKeys := false, apart := false, narrowed := true }
def NamesUptoSaid : Prop := namesUptoRow.holds Try.pinned (OpenSpec.upto namesSpec)

/-- 'turnstilelaw.MemTells', WHERE WHAT IT READS IS OF BULK AT MOST 1048576: true; the input reads as it did. -/
def memTellsUptoRow : OpenClaim := { program := "ytdbilofhcadmoaa", sum := "139613eca1c83214b12c4cf4bfc01d5f4ae5a03a12da5fa9d7147013d230e00c", func := "turnstile/turnstilelaw.MemTells", spec := "memTells", unfollowed := true, recurses := true, plainKeys := false, apart := false, narrowed := true }
def MemTellsUptoSaid : Prop := memTellsUptoRow.holds Try.pinned (OpenSpec.upto memTellsSpec)

/-- 'turnstilelaw.MemTakes', WHERE WHAT IT READS IS OF BULK AT MOST 1048576: true; the input reads as it did. -/
def memTakesUptoRow : OpenClaim := { program := "ytdbilofhcadmoaa", sum := "139613eca1c83214b12c4cf4bfc01d5f4ae5a03a12da5fa9d7147013d230e00c", func := "turnstile/turnstilelaw.MemTakes", spec := "memTakes", unfollowed := true, recurses := true, plainKeys := false, apart := false, narrowed := true }
def MemTakesUptoSaid : Prop := memTakesUptoRow.holds Try.pinned (OpenSpec.upto memTakesSpec)

/-- 'turnstilelaw.MemBack', WHERE WHAT IT READS IS OF BULK AT MOST 1048576: true; the input reads as it did. -/
def memBackUptoRow : OpenClaim := { program := "ytdbilofhcadmoaa", sum := "139613eca1c83214b12c4cf4bfc01d5f4ae5a03a12da5fa9d7147013d230e00c", func := "turnstile/turnstilelaw.MemBack", spec := "memBack", unfollowed := true, recurses := true, plainKeys := false, apart := false, narrowed := true }
def MemBackUptoSaid : Prop := memBackUptoRow.holds Try.pinned (OpenSpec.upto memBackSpec)

/-- 'turnstilelaw.MemFull', WHERE WHAT IT READS IS OF BULK AT MOST 1048576: true; the input reads as it did. -/
def memFullUptoRow : OpenClaim := { program := "ytdbilofhcadmoaa", sum := "139613eca1c83214b12c4cf4bfc01d5f4ae5a03a12da5fa9d7147013d230e00c", func := "turnstile/turnstilelaw.MemFull", spec := "memFull", unfollowed := true, recurses := true, plainKeys := false, apart := false, narrowed := true }
def MemFullUptoSaid : Prop := memFullUptoRow.holds Try.pinned (OpenSpec.upto memFullSpec)

/-- 'turnstilelaw.MemOften', WHERE WHAT IT READS IS OF BULK AT MOST 1048576: true; the input reads as it did. -/
def memOftenUptoRow : OpenClaim := { program := "ytdbilofhcadmoaa", sum := "139613eca1c83214b12c4cf4bfc01d5f4ae5a03a12da5fa9d7147013d230e00c", func := "turnstile/turnstilelaw.MemOften", spec := "memOften", unfollowed := true, recurses := true, plainKeys := false, apart := false, narrowed := true }
def MemOftenUptoSaid : Prop := memOftenUptoRow.holds Try.pinned (OpenSpec.upto memOftenSpec)

/-- 'turnstilelaw.ChainTells', WHERE WHAT IT READS IS OF BULK AT MOST 1048576: true; the input reads as it did. -/
def chainTellsUptoRow : OpenClaim := { program := "ytdbilofhcadmoaa", sum := "139613eca1c83214b12c4cf4bfc01d5f4ae5a03a12da5fa9d7147013d230e00c", func := "turnstile/turnstilelaw.ChainTells", spec := "chainTells", unfollowed := true, recurses := true, plainKeys := false, apart := false, narrowed := true }
def ChainTellsUptoSaid : Prop := chainTellsUptoRow.holds Try.pinned (OpenSpec.upto chainTellsSpec)

/-- 'turnstilelaw.ChainLinks', WHERE WHAT IT READS IS OF BULK AT MOST 1048576: true; the input reads as it did. -/
def chainLinksUptoRow : OpenClaim := { program := "ytdbilofhcadmoaa", sum := "139613eca1c83214b12c4cf4bfc01d5f4ae5a03a12da5fa9d7147013d230e00c", func := "turnstile/turnstilelaw.ChainLinks", spec := "chainLinks", unfollowed := true, recurses := true, plainKeys := false, apart := false, narrowed := true }
def ChainLinksUptoSaid : Prop := chainLinksUptoRow.holds Try.pinned (OpenSpec.upto chainLinksSpec)

/-- 'turnstilelaw.ChainBack', WHERE WHAT IT READS IS OF BULK AT MOST 1048576: true; the input reads as it did. -/
def chainBackUptoRow : OpenClaim := { program := "ytdbilofhcadmoaa", sum := "139613eca1c83214b12c4cf4bfc01d5f4ae5a03a12da5fa9d7147013d230e00c", func := "turnstile/turnstilelaw.ChainBack", spec := "chainBack", unfollowed := true, recurses := true, plainKeys := false, apart := false, narrowed := true }
def ChainBackUptoSaid : Prop := chainBackUptoRow.holds Try.pinned (OpenSpec.upto chainBackSpec)

end Rows
end Go.Proofs.Ytdbilofhcadmoaa
