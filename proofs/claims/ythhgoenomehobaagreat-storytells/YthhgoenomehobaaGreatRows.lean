/-
  No cell of these rows narrows 'for every input' (looked for: loops, veiled, ifaces, maps, wideKeys, modest, calm, conditions, laid).
  DERIVED. THE GIVEN ROWS OF THIS SEAT. 11 by the template 'for every input the law returns true; each argument reads behind the call as it read before'; 0 by the template 'total and deterministic' (their statements: YthhgoenomehobaaGreatTotals.lean).
  GIVEN WITH THE SEED: the statements are not yours to turn. If you find one false, say at which input.
  Laid BY PROGRAM, IN A SANDBOX (cutbox-rows.mjs): the forced cells as the released guide's own fill.sh prints them over the translation 0ddc1640d6adda8d… (all of the seat's roots in one cut). By AI agents, Wed Nov 11 2026. No macro, syntax, notation, axiom, sorry.
-/
import Derived.Test.YthhgoenomehobaaGreatChecked
import GoSem.Claim
import GoSem.ClaimJoined
import GoSem.ClaimMapViews
import Derived.JoinedTies
import Derived.KernelRfl
namespace Go.Proofs.YthhgoenomehobaaGreat
/- THE CELL 'sum', in the pinned program and in every row, IS THE sha256 OF THE DUMP (.gsa) THAT YthhgoenomehobaaGreatProg.lean LOADS. Nothing in Lean hashes anything: it is a label: what it is worth is what the hold of that sum in a sandbox is worth. -/
noncomputable def Tryz.pinned : Pinned := { name := "ythhgoenomehobaagreat", sum := "0ddc1640d6adda8dc9e5072eea7a9255743cb27979f35ae5c5cea71aa8346f10", checked := Tryz.checked }
namespace Rows
def none {H : Type} : Left H := { results := [], args := [] }

/-- 'turnstilelaw.WorldDoes': WHATEVER THE INPUT: true; the input reads as it did. -/
def worldDoesSpec : ChangeSpec := { name := "worldDoes", fn := fun _ => fun
  | [d1, d2, d3, d4, d5] => { results := [.lit (.bool true)], args := [d1, d2, d3, d4, d5] }
  | _ => none }
def worldDoesRow : OpenClaim := { program := "ythhgoenomehobaagreat", sum := "0ddc1640d6adda8dc9e5072eea7a9255743cb27979f35ae5c5cea71aa8346f10", func := "turnstile/turnstilelaw.WorldDoes", spec := "worldDoes", unfollowed := true, recurses := true, plainKeys := false, apart := false }
def WorldDoesSaid : Prop := worldDoesRow.holds Tryz.pinned (OpenSpec.ofChange worldDoesSpec)

/-- ITS FALSE NEIGHBOUR: 'it returns false'. Refute it at one input. -/
def worldDoesWrong : ChangeSpec := { name := "worldDoes", fn := fun _ => fun
  | [d1, d2, d3, d4, d5] => { results := [.lit (.bool false)], args := [d1, d2, d3, d4, d5] }
  | _ => none }
def WorldDoesWrongFalsely : Prop := worldDoesRow.holds Tryz.pinned (OpenSpec.ofChange worldDoesWrong)

/-- 'turnstilelaw.WorldOwn': WHATEVER THE INPUT: true; the input reads as it did. -/
def worldOwnSpec : ChangeSpec := { name := "worldOwn", fn := fun _ => fun
  | [d1, d2] => { results := [.lit (.bool true)], args := [d1, d2] }
  | _ => none }
def worldOwnRow : OpenClaim := { program := "ythhgoenomehobaagreat", sum := "0ddc1640d6adda8dc9e5072eea7a9255743cb27979f35ae5c5cea71aa8346f10", func := "turnstile/turnstilelaw.WorldOwn", spec := "worldOwn", unfollowed := true, recurses := true, plainKeys := false, apart := false }
def WorldOwnSaid : Prop := worldOwnRow.holds Tryz.pinned (OpenSpec.ofChange worldOwnSpec)

/-- ITS FALSE NEIGHBOUR: 'it returns false'. Refute it at one input. -/
def worldOwnWrong : ChangeSpec := { name := "worldOwn", fn := fun _ => fun
  | [d1, d2] => { results := [.lit (.bool false)], args := [d1, d2] }
  | _ => none }
def WorldOwnWrongFalsely : Prop := worldOwnRow.holds Tryz.pinned (OpenSpec.ofChange worldOwnWrong)

/-- 'turnstilelaw.WorldRight': WHATEVER THE INPUT: true; the input reads as it did. -/
def worldRightSpec : ChangeSpec := { name := "worldRight", fn := fun _ => fun
  | [d1, d2, d3, d4] => { results := [.lit (.bool true)], args := [d1, d2, d3, d4] }
  | _ => none }
def worldRightRow : OpenClaim := { program := "ythhgoenomehobaagreat", sum := "0ddc1640d6adda8dc9e5072eea7a9255743cb27979f35ae5c5cea71aa8346f10", func := "turnstile/turnstilelaw.WorldRight", spec := "worldRight", unfollowed := true, recurses := true, plainKeys := false, apart := false }
def WorldRightSaid : Prop := worldRightRow.holds Tryz.pinned (OpenSpec.ofChange worldRightSpec)

/-- ITS FALSE NEIGHBOUR: 'it returns false'. Refute it at one input. -/
def worldRightWrong : ChangeSpec := { name := "worldRight", fn := fun _ => fun
  | [d1, d2, d3, d4] => { results := [.lit (.bool false)], args := [d1, d2, d3, d4] }
  | _ => none }
def WorldRightWrongFalsely : Prop := worldRightRow.holds Tryz.pinned (OpenSpec.ofChange worldRightWrong)

/-- 'turnstilelaw.WorldHeld': WHATEVER THE INPUT: true; the input reads as it did. -/
def worldHeldSpec : ChangeSpec := { name := "worldHeld", fn := fun _ => fun
  | [d1, d2, d3, d4] => { results := [.lit (.bool true)], args := [d1, d2, d3, d4] }
  | _ => none }
def worldHeldRow : OpenClaim := { program := "ythhgoenomehobaagreat", sum := "0ddc1640d6adda8dc9e5072eea7a9255743cb27979f35ae5c5cea71aa8346f10", func := "turnstile/turnstilelaw.WorldHeld", spec := "worldHeld", unfollowed := true, recurses := true, plainKeys := false, apart := false }
def WorldHeldSaid : Prop := worldHeldRow.holds Tryz.pinned (OpenSpec.ofChange worldHeldSpec)

/-- ITS FALSE NEIGHBOUR: 'it returns false'. Refute it at one input. -/
def worldHeldWrong : ChangeSpec := { name := "worldHeld", fn := fun _ => fun
  | [d1, d2, d3, d4] => { results := [.lit (.bool false)], args := [d1, d2, d3, d4] }
  | _ => none }
def WorldHeldWrongFalsely : Prop := worldHeldRow.holds Tryz.pinned (OpenSpec.ofChange worldHeldWrong)

/-- 'turnstilelaw.WorldLocks': WHATEVER THE INPUT: true; the input reads as it did. -/
def worldLocksSpec : ChangeSpec := { name := "worldLocks", fn := fun _ => fun
  | [d1, d2, d3, d4] => { results := [.lit (.bool true)], args := [d1, d2, d3, d4] }
  | _ => none }
def worldLocksRow : OpenClaim := { program := "ythhgoenomehobaagreat", sum := "0ddc1640d6adda8dc9e5072eea7a9255743cb27979f35ae5c5cea71aa8346f10", func := "turnstile/turnstilelaw.WorldLocks", spec := "worldLocks", unfollowed := true, recurses := true, plainKeys := false, apart := false }
def WorldLocksSaid : Prop := worldLocksRow.holds Tryz.pinned (OpenSpec.ofChange worldLocksSpec)

/-- ITS FALSE NEIGHBOUR: 'it returns false'. Refute it at one input. -/
def worldLocksWrong : ChangeSpec := { name := "worldLocks", fn := fun _ => fun
  | [d1, d2, d3, d4] => { results := [.lit (.bool false)], args := [d1, d2, d3, d4] }
  | _ => none }
def WorldLocksWrongFalsely : Prop := worldLocksRow.holds Tryz.pinned (OpenSpec.ofChange worldLocksWrong)

/-- 'turnstilelaw.WorldEnds': WHATEVER THE INPUT: true; the input reads as it did. -/
def worldEndsSpec : ChangeSpec := { name := "worldEnds", fn := fun _ => fun
  | [d1, d2, d3, d4] => { results := [.lit (.bool true)], args := [d1, d2, d3, d4] }
  | _ => none }
def worldEndsRow : OpenClaim := { program := "ythhgoenomehobaagreat", sum := "0ddc1640d6adda8dc9e5072eea7a9255743cb27979f35ae5c5cea71aa8346f10", func := "turnstile/turnstilelaw.WorldEnds", spec := "worldEnds", unfollowed := true, recurses := true, plainKeys := false, apart := false }
def WorldEndsSaid : Prop := worldEndsRow.holds Tryz.pinned (OpenSpec.ofChange worldEndsSpec)

/-- ITS FALSE NEIGHBOUR: 'it returns false'. Refute it at one input. -/
def worldEndsWrong : ChangeSpec := { name := "worldEnds", fn := fun _ => fun
  | [d1, d2, d3, d4] => { results := [.lit (.bool false)], args := [d1, d2, d3, d4] }
  | _ => none }
def WorldEndsWrongFalsely : Prop := worldEndsRow.holds Tryz.pinned (OpenSpec.ofChange worldEndsWrong)

/-- 'turnstilelaw.WorldFrees': WHATEVER THE INPUT: true; the input reads as it did. -/
def worldFreesSpec : ChangeSpec := { name := "worldFrees", fn := fun _ => fun
  | [d1, d2, d3, d4] => { results := [.lit (.bool true)], args := [d1, d2, d3, d4] }
  | _ => none }
def worldFreesRow : OpenClaim := { program := "ythhgoenomehobaagreat", sum := "0ddc1640d6adda8dc9e5072eea7a9255743cb27979f35ae5c5cea71aa8346f10", func := "turnstile/turnstilelaw.WorldFrees", spec := "worldFrees", unfollowed := true, recurses := true, plainKeys := false, apart := false }
def WorldFreesSaid : Prop := worldFreesRow.holds Tryz.pinned (OpenSpec.ofChange worldFreesSpec)

/-- ITS FALSE NEIGHBOUR: 'it returns false'. Refute it at one input. -/
def worldFreesWrong : ChangeSpec := { name := "worldFrees", fn := fun _ => fun
  | [d1, d2, d3, d4] => { results := [.lit (.bool false)], args := [d1, d2, d3, d4] }
  | _ => none }
def WorldFreesWrongFalsely : Prop := worldFreesRow.holds Tryz.pinned (OpenSpec.ofChange worldFreesWrong)

/-- 'turnstilelaw.StoryTells': WHATEVER THE INPUT: true; the input reads as it did. -/
def storyTellsSpec : ChangeSpec := { name := "storyTells", fn := fun _ => fun
  | [d1, d2, d3] => { results := [.lit (.bool true)], args := [d1, d2, d3] }
  | _ => none }
def storyTellsRow : OpenClaim := { program := "ythhgoenomehobaagreat", sum := "0ddc1640d6adda8dc9e5072eea7a9255743cb27979f35ae5c5cea71aa8346f10", func := "turnstile/turnstilelaw.StoryTells", spec := "storyTells", unfollowed := true, recurses := true, plainKeys := false, apart := false }
def StoryTellsSaid : Prop := storyTellsRow.holds Tryz.pinned (OpenSpec.ofChange storyTellsSpec)

/-- ITS FALSE NEIGHBOUR: 'it returns false'. Refute it at one input. -/
def storyTellsWrong : ChangeSpec := { name := "storyTells", fn := fun _ => fun
  | [d1, d2, d3] => { results := [.lit (.bool false)], args := [d1, d2, d3] }
  | _ => none }
def StoryTellsWrongFalsely : Prop := storyTellsRow.holds Tryz.pinned (OpenSpec.ofChange storyTellsWrong)

/-- 'turnstilelaw.StorySolo': WHATEVER THE INPUT: true; the input reads as it did. -/
def storySoloSpec : ChangeSpec := { name := "storySolo", fn := fun _ => fun
  | [d1, d2, d3, d4] => { results := [.lit (.bool true)], args := [d1, d2, d3, d4] }
  | _ => none }
def storySoloRow : OpenClaim := { program := "ythhgoenomehobaagreat", sum := "0ddc1640d6adda8dc9e5072eea7a9255743cb27979f35ae5c5cea71aa8346f10", func := "turnstile/turnstilelaw.StorySolo", spec := "storySolo", unfollowed := true, recurses := true, plainKeys := false, apart := false }
def StorySoloSaid : Prop := storySoloRow.holds Tryz.pinned (OpenSpec.ofChange storySoloSpec)

/-- ITS FALSE NEIGHBOUR: 'it returns false'. Refute it at one input. -/
def storySoloWrong : ChangeSpec := { name := "storySolo", fn := fun _ => fun
  | [d1, d2, d3, d4] => { results := [.lit (.bool false)], args := [d1, d2, d3, d4] }
  | _ => none }
def StorySoloWrongFalsely : Prop := storySoloRow.holds Tryz.pinned (OpenSpec.ofChange storySoloWrong)

/-- 'turnstilelaw.StoryLists': WHATEVER THE INPUT: true; the input reads as it did. -/
def storyListsSpec : ChangeSpec := { name := "storyLists", fn := fun _ => fun
  | [d1, d2, d3, d4] => { results := [.lit (.bool true)], args := [d1, d2, d3, d4] }
  | _ => none }
def storyListsRow : OpenClaim := { program := "ythhgoenomehobaagreat", sum := "0ddc1640d6adda8dc9e5072eea7a9255743cb27979f35ae5c5cea71aa8346f10", func := "turnstile/turnstilelaw.StoryLists", spec := "storyLists", unfollowed := true, recurses := true, plainKeys := false, apart := false }
def StoryListsSaid : Prop := storyListsRow.holds Tryz.pinned (OpenSpec.ofChange storyListsSpec)

/-- ITS FALSE NEIGHBOUR: 'it returns false'. Refute it at one input. -/
def storyListsWrong : ChangeSpec := { name := "storyLists", fn := fun _ => fun
  | [d1, d2, d3, d4] => { results := [.lit (.bool false)], args := [d1, d2, d3, d4] }
  | _ => none }
def StoryListsWrongFalsely : Prop := storyListsRow.holds Tryz.pinned (OpenSpec.ofChange storyListsWrong)

/-- 'turnstilelaw.StoryHolds': WHATEVER THE INPUT: true; the input reads as it did. -/
def storyHoldsSpec : ChangeSpec := { name := "storyHolds", fn := fun _ => fun
  | [d1, d2, d3, d4] => { results := [.lit (.bool true)], args := [d1, d2, d3, d4] }
  | _ => none }
def storyHoldsRow : OpenClaim := { program := "ythhgoenomehobaagreat", sum := "0ddc1640d6adda8dc9e5072eea7a9255743cb27979f35ae5c5cea71aa8346f10", func := "turnstile/turnstilelaw.StoryHolds", spec := "storyHolds", unfollowed := true, recurses := true, plainKeys := false, apart := false }
def StoryHoldsSaid : Prop := storyHoldsRow.holds Tryz.pinned (OpenSpec.ofChange storyHoldsSpec)

/-- ITS FALSE NEIGHBOUR: 'it returns false'. Refute it at one input. -/
def storyHoldsWrong : ChangeSpec := { name := "storyHolds", fn := fun _ => fun
  | [d1, d2, d3, d4] => { results := [.lit (.bool false)], args := [d1, d2, d3, d4] }
  | _ => none }
def StoryHoldsWrongFalsely : Prop := storyHoldsRow.holds Tryz.pinned (OpenSpec.ofChange storyHoldsWrong)

/- THE SECOND FORM. 'bulk': how many values and letters a reading holds, each counted each time it is reached (what is shared counts as often as it is met; a slice's spare places count too). A statement '..UptoSaid' is the law's where the arguments, and the package variables that the reading takes, are together of bulk at most 1048576: NARROWER than '..Said'. Prove '..Said' where nothing that the law and all that it calls make is longer than what came in: it says more and counts as full. Else prove '..UptoSaid'. A law counts once. -/
mutual
def uptoBulk {H : Type} : DataW H → Nat
  | .lit (.string bytes) => bytes.length + 1
  | .lit _ => 1
  | .nil => 1
  | .ptr d => uptoBulk d + 1
  | .slice elems spare => uptoBulkAll elems + uptoBulkAll spare + 1
  | .agg parts => uptoBulkAll parts + 1
  | .iface _ d => uptoBulk d + 1
  | .map entries => uptoBulkEntries entries + 1
  | .held _ => 1
def uptoBulkAll {H : Type} : List (DataW H) → Nat
  | [] => 0
  | d :: r => uptoBulk d + uptoBulkAll r
def uptoBulkEntries {H : Type} : List (Lit × DataW H) → Nat
  | [] => 0
  | x :: r => uptoBulkEntry x + uptoBulkEntries r
def uptoBulkEntry {H : Type} : Lit × DataW H → Nat
  | (.string bytes, d) => bytes.length + uptoBulk d + 1
  | (_, d) => uptoBulk d + 1
 end
def uptoSmall : (H : Type) → List (DataW H) → Bool := fun _ ds => decide (uptoBulkAll ds ≤ 1048576)
def OpenSpec.upto (s : _root_.Go.ChangeSpec) : _root_.Go.OpenSpec := { _root_.Go.OpenSpec.ofChange s with cond := some uptoSmall }

/-- 'turnstilelaw.WorldDoes', WHERE WHAT IT READS IS OF BULK AT MOST 1048576: true; the input reads as it did. -/
def worldDoesUptoRow : OpenClaim := { program := "ythhgoenomehobaagreat", sum := "0ddc1640d6adda8dc9e5072eea7a9255743cb27979f35ae5c5cea71aa8346f10", func := "turnstile/turnstilelaw.WorldDoes", spec := "worldDoes", unfollowed := true, recurses := true, plainKeys := false, apart := false, narrowed := true }
def WorldDoesUptoSaid : Prop := worldDoesUptoRow.holds Tryz.pinned (OpenSpec.upto worldDoesSpec)

/-- 'turnstilelaw.WorldOwn', WHERE WHAT IT READS IS OF BULK AT MOST 1048576: true; the input reads as it did. -/
def worldOwnUptoRow : OpenClaim := { program := "ythhgoenomehobaagreat", sum := "0ddc1640d6adda8dc9e5072eea7a9255743cb27979f35ae5c5cea71aa8346f10", func := "turnstile/turnstilelaw.WorldOwn", spec := "worldOwn", unfollowed := true, recurses := true, plainKeys := false, apart := false, narrowed := true }
def WorldOwnUptoSaid : Prop := worldOwnUptoRow.holds Tryz.pinned (OpenSpec.upto worldOwnSpec)

/-- 'turnstilelaw.WorldRight', WHERE WHAT IT READS IS OF BULK AT MOST 1048576: true; the input reads as it did. -/
def worldRightUptoRow : OpenClaim := { program := "ythhgoenomehobaagreat", sum := "0ddc1640d6adda8dc9e5072eea7a9255743cb27979f35ae5c5cea71aa8346f10", func := "turnstile/turnstilelaw.WorldRight", spec := "worldRight", unfollowed := true, recurses := true, plainKeys := false, apart := false, narrowed := true }
def WorldRightUptoSaid : Prop := worldRightUptoRow.holds Tryz.pinned (OpenSpec.upto worldRightSpec)

/-- 'turnstilelaw.WorldHeld', WHERE WHAT IT READS IS OF BULK AT MOST 1048576: true; the input reads as it did. -/
def worldHeldUptoRow : OpenClaim := { program := "ythhgoenomehobaagreat", sum := "0ddc1640d6adda8dc9e5072eea7a9255743cb27979f35ae5c5cea71aa8346f10", func := "turnstile/turnstilelaw.WorldHeld", spec := "worldHeld", unfollowed := true, recurses := true, plainKeys := false, apart := false, narrowed := true }
def WorldHeldUptoSaid : Prop := worldHeldUptoRow.holds Tryz.pinned (OpenSpec.upto worldHeldSpec)

/-- 'turnstilelaw.WorldLocks', WHERE WHAT IT READS IS OF BULK AT MOST 1048576: true; the input reads as it did. -/
def worldLocksUptoRow : OpenClaim := { program := "ythhgoenomehobaagreat", sum := "0ddc1640d6adda8dc9e5072eea7a9255743cb27979f35ae5c5cea71aa8346f10", func := "turnstile/turnstilelaw.WorldLocks", spec := "worldLocks", unfollowed := true, recurses := true, plainKeys := false, apart := false, narrowed := true }
def WorldLocksUptoSaid : Prop := worldLocksUptoRow.holds Tryz.pinned (OpenSpec.upto worldLocksSpec)

/-- 'turnstilelaw.WorldEnds', WHERE WHAT IT READS IS OF BULK AT MOST 1048576: true; the input reads as it did. -/
def worldEndsUptoRow : OpenClaim := { program := "ythhgoenomehobaagreat", sum := "0ddc1640d6adda8dc9e5072eea7a9255743cb27979f35ae5c5cea71aa8346f10", func := "turnstile/turnstilelaw.WorldEnds", spec := "worldEnds", unfollowed := true, recurses := true, plainKeys := false, apart := false, narrowed := true }
def WorldEndsUptoSaid : Prop := worldEndsUptoRow.holds Tryz.pinned (OpenSpec.upto worldEndsSpec)

/-- 'turnstilelaw.WorldFrees', WHERE WHAT IT READS IS OF BULK AT MOST 1048576: true; the input reads as it did. -/
def worldFreesUptoRow : OpenClaim := { program := "ythhgoenomehobaagreat", sum := "0ddc1640d6adda8dc9e5072eea7a9255743cb27979f35ae5c5cea71aa8346f10", func := "turnstile/turnstilelaw.WorldFrees", spec := "worldFrees", unfollowed := true, recurses := true, plainKeys := false, apart := false, narrowed := true }
def WorldFreesUptoSaid : Prop := worldFreesUptoRow.holds Tryz.pinned (OpenSpec.upto worldFreesSpec)

/-- 'turnstilelaw.StoryTells', WHERE WHAT IT READS IS OF BULK AT MOST 1048576: true; the input reads as it did. -/
def storyTellsUptoRow : OpenClaim := { program := "ythhgoenomehobaagreat", sum := "0ddc1640d6adda8dc9e5072eea7a9255743cb27979f35ae5c5cea71aa8346f10", func := "turnstile/turnstilelaw.StoryTells", spec := "storyTells", unfollowed := true, recurses := true, plainKeys := false, apart := false, narrowed := true }
def StoryTellsUptoSaid : Prop := storyTellsUptoRow.holds Tryz.pinned (OpenSpec.upto storyTellsSpec)

/-- 'turnstilelaw.StorySolo', WHERE WHAT IT READS IS OF BULK AT MOST 1048576: true; the input reads as it did. -/
def storySoloUptoRow : OpenClaim := { program := "ythhgoenomehobaagreat", sum := "0ddc1640d6adda8dc9e5072eea7a9255743cb27979f35ae5c5cea71aa8346f10", func := "turnstile/turnstilelaw.StorySolo", spec := "storySolo", unfollowed := true, recurses := true, plainKeys := false, apart := false, narrowed := true }
def StorySoloUptoSaid : Prop := storySoloUptoRow.holds Tryz.pinned (OpenSpec.upto storySoloSpec)

/-- 'turnstilelaw.StoryLists', WHERE WHAT IT READS IS OF BULK AT MOST 1048576: true; the input reads as it did. -/
def storyListsUptoRow : OpenClaim := { program := "ythhgoenomehobaagreat", sum := "0ddc1640d6adda8dc9e5072eea7a9255743cb27979f35ae5c5cea71aa8346f10", func := "turnstile/turnstilelaw.StoryLists", spec := "storyLists", unfollowed := true, recurses := true, plainKeys := false, apart := false, narrowed := true }
def StoryListsUptoSaid : Prop := storyListsUptoRow.holds Tryz.pinned (OpenSpec.upto storyListsSpec)

/-- 'turnstilelaw.StoryHolds', WHERE WHAT IT READS IS OF BULK AT MOST 1048576: true; the input reads as it did. -/
def storyHoldsUptoRow : OpenClaim := { program := "ythhgoenomehobaagreat", sum := "0ddc1640d6adda8dc9e5072eea7a9255743cb27979f35ae5c5cea71aa8346f10", func := "turnstile/turnstilelaw.StoryHolds", spec := "storyHolds", unfollowed := true, recurses := true, plainKeys := false, apart := false, narrowed := true }
def StoryHoldsUptoSaid : Prop := storyHoldsUptoRow.holds Tryz.pinned (OpenSpec.upto storyHoldsSpec)

end Rows
end Go.Proofs.YthhgoenomehobaaGreat
