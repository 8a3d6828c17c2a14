/-
  No cell of these rows narrows 'for every input' (looked for: loops, veiled, ifaces, maps, wideKeys, modest, calm, conditions, laid).
  DERIVED. THE GIVEN ROWS OF THIS SEAT. 5 by the template 'for every input the law returns true; each argument reads behind the call as it read before'; 0 by the template 'total and deterministic' (their statements: YtacognejefeboaaTotals.lean).
  GIVEN WITH THE SEED: the statements are not yours to turn. If you find one false, say at which input.
  Laid BY PROGRAM, IN A SANDBOX (cutbox-rows.mjs): the forced cells as the released guide's own fill.sh prints them over the translation d1c0a8b0ca7e87d8… (all of the seat's roots in one cut). By AI agents, Wed Nov 11 2026. No macro, syntax, notation, axiom, sorry.
-/
import Derived.Test.YtacognejefeboaaChecked
import GoSem.Claim
import GoSem.ClaimJoined
import GoSem.ClaimMapViews
import Derived.JoinedTies
import Derived.KernelRfl
namespace Go.Proofs.Ytacognejefeboaa
/- THE CELL 'sum', in the pinned program and in every row, IS THE sha256 OF THE DUMP (.gsa) THAT YtacognejefeboaaProg.lean LOADS. Nothing in Lean hashes anything: it is a label: what it is worth is what the hold of that sum in a sandbox is worth. -/
noncomputable def Try.pinned : Pinned := { name := "ytacognejefeboaa", sum := "d1c0a8b0ca7e87d8493fd8d6d582fd2c8d8c5da3f03a4244e619f75c3e7591bc", checked := Try.checked }
namespace Rows
def none {H : Type} : Left H := { results := [], args := [] }

/-- 'steadinglaw08.HeaderPlays': WHATEVER THE INPUT: true; the input reads as it did. -/
def headerPlaysSpec : ChangeSpec := { name := "headerPlays", fn := fun _ => fun
  | [d1, d2] => { results := [.lit (.bool true)], args := [d1, d2] }
  | _ => none }
def headerPlaysRow : OpenClaim := { program := "ytacognejefeboaa", sum := "d1c0a8b0ca7e87d8493fd8d6d582fd2c8d8c5da3f03a4244e619f75c3e7591bc", func := "steading/steadinglaw08.HeaderPlays", spec := "headerPlays", inPlace := ["internal/bytealg.MakeNoZero"], unfollowed := true, recurses := true, plainKeys := false, apart := false }
def HeaderPlaysSaid : Prop := headerPlaysRow.holds Try.pinned (OpenSpec.ofChange headerPlaysSpec)

/-- ITS FALSE NEIGHBOUR: 'it returns false'. Refute it at one input. -/
def headerPlaysWrong : ChangeSpec := { name := "headerPlays", fn := fun _ => fun
  | [d1, d2] => { results := [.lit (.bool false)], args := [d1, d2] }
  | _ => none }
def HeaderPlaysWrongFalsely : Prop := headerPlaysRow.holds Try.pinned (OpenSpec.ofChange headerPlaysWrong)

/-- 'steadinglaw08.HeaderBack': WHATEVER THE INPUT: true; the input reads as it did. -/
def headerBackSpec : ChangeSpec := { name := "headerBack", fn := fun _ => fun
  | [d1, d2, d3] => { results := [.lit (.bool true)], args := [d1, d2, d3] }
  | _ => none }
def headerBackRow : OpenClaim := { program := "ytacognejefeboaa", sum := "d1c0a8b0ca7e87d8493fd8d6d582fd2c8d8c5da3f03a4244e619f75c3e7591bc", func := "steading/steadinglaw08.HeaderBack", spec := "headerBack", inPlace := ["internal/bytealg.MakeNoZero"], unfollowed := true, recurses := true, plainKeys := false, apart := false }
def HeaderBackSaid : Prop := headerBackRow.holds Try.pinned (OpenSpec.ofChange headerBackSpec)

/-- ITS FALSE NEIGHBOUR: 'it returns false'. Refute it at one input. -/
def headerBackWrong : ChangeSpec := { name := "headerBack", fn := fun _ => fun
  | [d1, d2, d3] => { results := [.lit (.bool false)], args := [d1, d2, d3] }
  | _ => none }
def HeaderBackWrongFalsely : Prop := headerBackRow.holds Try.pinned (OpenSpec.ofChange headerBackWrong)

/-- 'steadinglaw08.HeaderInside': WHATEVER THE INPUT: true; the input reads as it did. -/
def headerInsideSpec : ChangeSpec := { name := "headerInside", fn := fun _ => fun
  | [d1, d2, d3, d4] => { results := [.lit (.bool true)], args := [d1, d2, d3, d4] }
  | _ => none }
def headerInsideRow : OpenClaim := { program := "ytacognejefeboaa", sum := "d1c0a8b0ca7e87d8493fd8d6d582fd2c8d8c5da3f03a4244e619f75c3e7591bc", func := "steading/steadinglaw08.HeaderInside", spec := "headerInside", inPlace := ["internal/bytealg.MakeNoZero"], unfollowed := true, recurses := true, plainKeys := false, apart := false }
def HeaderInsideSaid : Prop := headerInsideRow.holds Try.pinned (OpenSpec.ofChange headerInsideSpec)

/-- ITS FALSE NEIGHBOUR: 'it returns false'. Refute it at one input. -/
def headerInsideWrong : ChangeSpec := { name := "headerInside", fn := fun _ => fun
  | [d1, d2, d3, d4] => { results := [.lit (.bool false)], args := [d1, d2, d3, d4] }
  | _ => none }
def HeaderInsideWrongFalsely : Prop := headerInsideRow.holds Try.pinned (OpenSpec.ofChange headerInsideWrong)

/-- 'steadinglaw08.HeaderMagic': WHATEVER THE INPUT: true; the input reads as it did. -/
def headerMagicSpec : ChangeSpec := { name := "headerMagic", fn := fun _ => fun
  | [d1, d2, d3] => { results := [.lit (.bool true)], args := [d1, d2, d3] }
  | _ => none }
def headerMagicRow : OpenClaim := { program := "ytacognejefeboaa", sum := "d1c0a8b0ca7e87d8493fd8d6d582fd2c8d8c5da3f03a4244e619f75c3e7591bc", func := "steading/steadinglaw08.HeaderMagic", spec := "headerMagic", inPlace := ["internal/bytealg.MakeNoZero"], unfollowed := true, recurses := true, plainKeys := false, apart := false }
def HeaderMagicSaid : Prop := headerMagicRow.holds Try.pinned (OpenSpec.ofChange headerMagicSpec)

/-- ITS FALSE NEIGHBOUR: 'it returns false'. Refute it at one input. -/
def headerMagicWrong : ChangeSpec := { name := "headerMagic", fn := fun _ => fun
  | [d1, d2, d3] => { results := [.lit (.bool false)], args := [d1, d2, d3] }
  | _ => none }
def HeaderMagicWrongFalsely : Prop := headerMagicRow.holds Try.pinned (OpenSpec.ofChange headerMagicWrong)

/-- 'steadinglaw08.HeaderLinks': WHATEVER THE INPUT: true; the input reads as it did. -/
def headerLinksSpec : ChangeSpec := { name := "headerLinks", fn := fun _ => fun
  | [d1, d2] => { results := [.lit (.bool true)], args := [d1, d2] }
  | _ => none }
def headerLinksRow : OpenClaim := { program := "ytacognejefeboaa", sum := "d1c0a8b0ca7e87d8493fd8d6d582fd2c8d8c5da3f03a4244e619f75c3e7591bc", func := "steading/steadinglaw08.HeaderLinks", spec := "headerLinks", inPlace := ["internal/bytealg.MakeNoZero"], unfollowed := true, recurses := true, plainKeys := false, apart := false }
def HeaderLinksSaid : Prop := headerLinksRow.holds Try.pinned (OpenSpec.ofChange headerLinksSpec)

/-- ITS FALSE NEIGHBOUR: 'it returns false'. Refute it at one input. -/
def headerLinksWrong : ChangeSpec := { name := "headerLinks", fn := fun _ => fun
  | [d1, d2] => { results := [.lit (.bool false)], args := [d1, d2] }
  | _ => none }
def HeaderLinksWrongFalsely : Prop := headerLinksRow.holds Try.pinned (OpenSpec.ofChange headerLinksWrong)

/- THE SECOND FORM. 'bulk': how many values and letters a reading holds, each counted each time it is reached (what is shared counts as often as it is met; a slice's spare places count too). A statement '..UptoSaid' is the law's where the arguments, and the package variables that the reading takes, are together of bulk at most 1048576: NARROWER than '..Said'. Prove '..Said' where nothing that the law and all that it calls make is longer than what came in: it says more and counts as full. Else prove '..UptoSaid'. A law counts once. -/
mutual
def uptoBulk {H : Type} : DataW H → Nat
  | .lit (.string bytes) => bytes.length + 1
  | .lit _ => 1
  | .nil => 1
  | .ptr d => uptoBulk d + 1
  | .slice elems spare => uptoBulkAll elems + uptoBulkAll spare + 1
  | .agg parts => uptoBulkAll parts + 1
  | .iface _ d => uptoBulk d + 1
  | .map entries => uptoBulkEntries entries + 1
  | .held _ => 1
def uptoBulkAll {H : Type} : List (DataW H) → Nat
  | [] => 0
  | d :: r => uptoBulk d + uptoBulkAll r
def uptoBulkEntries {H : Type} : List (Lit × DataW H) → Nat
  | [] => 0
  | x :: r => uptoBulkEntry x + uptoBulkEntries r
def uptoBulkEntry {H : Type} : Lit × DataW H → Nat
  | (.string bytes, d) => bytes.length + uptoBulk d + 1
  | (_, d) => uptoBulk d + 1
 end
def uptoSmall : (H : Type) → List (DataW H) → Bool := fun _ ds => decide (uptoBulkAll ds ≤ 1048576)
def OpenSpec.upto (s : _root_.Go.ChangeSpec) : _root_.Go.OpenSpec := { _root_.Go.OpenSpec.ofChange s with cond := some uptoSmall }

/-- 'steadinglaw08.HeaderPlays', WHERE WHAT IT READS IS OF BULK AT MOST 1048576: true; the input reads as it did. -/
def headerPlaysUptoRow : OpenClaim := { program := "ytacognejefeboaa", sum := "d1c0a8b0ca7e87d8493fd8d6d582fd2c8d8c5da3f03a4244e619f75c3e7591bc", func := "steading/steadinglaw08.HeaderPlays", spec := "headerPlays", inPlace := ["internal/bytealg.MakeNoZero"], unfollowed := true, recurses := true, plainKeys := false, apart := false, narrowed := true }
def HeaderPlaysUptoSaid : Prop := headerPlaysUptoRow.holds Try.pinned (OpenSpec.upto headerPlaysSpec)

/-- 'steadinglaw08.HeaderBack', WHERE WHAT IT READS IS OF BULK AT MOST 1048576: true; the input reads as it did. -/
def headerBackUptoRow : OpenClaim := { program := "ytacognejefeboaa", sum := "d1c0a8b0ca7e87d8493fd8d6d582fd2c8d8c5da3f03a4244e619f75c3e7591bc", func := "steading/steadinglaw08.HeaderBack", spec := "headerBack", inPlace := ["internal/bytealg.MakeNoZero"], unfollowed := true, recurses := true, plainKeys := false, apart := false, narrowed := true }
def HeaderBackUptoSaid : Prop := headerBackUptoRow.holds Try.pinned (OpenSpec.upto headerBackSpec)

/-- 'steadinglaw08.HeaderInside', WHERE WHAT IT READS IS OF BULK AT MOST 1048576: true; the input reads as it did. -/
def headerInsideUptoRow : OpenClaim := { program := "ytacognejefeboaa", sum := "d1c0a8b0ca7e87d8493fd8d6d582fd2c8d8c5da3f03a4244e619f75c3e7591bc", func := "steading/steadinglaw08.HeaderInside", spec := "headerInside", inPlace := ["internal/bytealg.MakeNoZero"], unfollowed := true, recurses := true, plainKeys := false, apart := false, narrowed := true }
def HeaderInsideUptoSaid : Prop := headerInsideUptoRow.holds Try.pinned (OpenSpec.upto headerInsideSpec)

/-- 'steadinglaw08.HeaderMagic', WHERE WHAT IT READS IS OF BULK AT MOST 1048576: true; the input reads as it did. -/
def headerMagicUptoRow : OpenClaim := { program := "ytacognejefeboaa", sum := "d1c0a8b0ca7e87d8493fd8d6d582fd2c8d8c5da3f03a4244e619f75c3e7591bc", func := "steading/steadinglaw08.HeaderMagic", spec := "headerMagic", inPlace := ["internal/bytealg.MakeNoZero"], unfollowed := true, recurses := true, plainKeys := false, apart := false, narrowed := true }
def HeaderMagicUptoSaid : Prop := headerMagicUptoRow.holds Try.pinned (OpenSpec.upto headerMagicSpec)

/-- 'steadinglaw08.HeaderLinks', WHERE WHAT IT READS IS OF BULK AT MOST 1048576: true; the input reads as it did. -/
def headerLinksUptoRow : OpenClaim := { program := "ytacognejefeboaa", sum := "d1c0a8b0ca7e87d8493fd8d6d582fd2c8d8c5da3f03a4244e619f75c3e7591bc", func := "steading/steadinglaw08.HeaderLinks", spec := "headerLinks", inPlace := ["internal/bytealg.MakeNoZero"], unfollowed := true, recurses := true, plainKeys := false, apart := false, narrowed := true }
def HeaderLinksUptoSaid : Prop := headerLinksUptoRow.holds Try.pinned (OpenSpec.upto headerLinksSpec)

end Rows
end Go.Proofs.Ytacognejefeboaa
