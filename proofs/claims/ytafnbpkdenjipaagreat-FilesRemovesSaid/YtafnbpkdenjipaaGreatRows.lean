/-
  No cell of these rows narrows 'for every input' (looked for: loops, veiled, ifaces, maps, wideKeys, modest, calm, conditions, laid).
  DERIVED. THE GIVEN ROWS OF THIS SEAT. 6 by the template 'for every input the law returns true; each argument reads behind the call as it read before'; 0 by the template 'total and deterministic' (their statements: YtafnbpkdenjipaaGreatTotals.lean).
  GIVEN WITH THE SEED: the statements are not yours to turn. If you find one false, say at which input.
  Laid BY PROGRAM, IN A SANDBOX (cutbox-rows.mjs): the forced cells as the released guide's own fill.sh prints them over the translation 376e05da4e02c559… (all of the seat's roots in one cut). By AI agents, Wed Nov 11 2026. No macro, syntax, notation, axiom, sorry.
-/
import Derived.Test.YtafnbpkdenjipaaGreatChecked
import GoSem.Claim
import GoSem.ClaimJoined
import GoSem.ClaimMapViews
import Derived.JoinedTies
import Derived.KernelRfl
namespace Go.Proofs.YtafnbpkdenjipaaGreat
/- THE CELL 'sum', in the pinned program and in every row, IS THE sha256 OF THE DUMP (.gsa) THAT YtafnbpkdenjipaaGreatProg.lean LOADS. Nothing in Lean hashes anything: it is a label: what it is worth is what the hold of that sum in a sandbox is worth. -/
noncomputable def Tryz.pinned : Pinned := { name := "ytafnbpkdenjipaagreat", sum := "376e05da4e02c5592a4b10438de2f53d53f2c528cc5b92153ce898d6ee835a18", checked := Tryz.checked }
namespace Rows
def none {H : Type} : Left H := { results := [], args := [] }

/-- 'kauditlaw05.FilesSpoiled': WHATEVER THE INPUT: true; the input reads as it did. -/
def filesSpoiledSpec : ChangeSpec := { name := "filesSpoiled", fn := fun _ => fun
  | [d] => { results := [.lit (.bool true)], args := [d] }
  | _ => none }
def filesSpoiledRow : OpenClaim := { program := "ytafnbpkdenjipaagreat", sum := "376e05da4e02c5592a4b10438de2f53d53f2c528cc5b92153ce898d6ee835a18", func := "kaudit/kauditlaw05.FilesSpoiled", spec := "filesSpoiled", inPlace := ["internal/bytealg.IndexByteString", "internal/bytealg.IndexString", "slices.overlaps[kaudit/api.Entry]"], unfollowed := true, recurses := true, named := ["internal/bytealg.MaxLen"], apart := false }
def FilesSpoiledSaid : Prop := filesSpoiledRow.holds Tryz.pinned (OpenSpec.ofChange filesSpoiledSpec)

/-- ITS FALSE NEIGHBOUR: 'it returns false'. Refute it at one input. -/
def filesSpoiledWrong : ChangeSpec := { name := "filesSpoiled", fn := fun _ => fun
  | [d] => { results := [.lit (.bool false)], args := [d] }
  | _ => none }
def FilesSpoiledWrongFalsely : Prop := filesSpoiledRow.holds Tryz.pinned (OpenSpec.ofChange filesSpoiledWrong)

/-- 'kauditlaw05.FilesRemoves': WHATEVER THE INPUT: true; the input reads as it did. -/
def filesRemovesSpec : ChangeSpec := { name := "filesRemoves", fn := fun _ => fun
  | [d] => { results := [.lit (.bool true)], args := [d] }
  | _ => none }
def filesRemovesRow : OpenClaim := { program := "ytafnbpkdenjipaagreat", sum := "376e05da4e02c5592a4b10438de2f53d53f2c528cc5b92153ce898d6ee835a18", func := "kaudit/kauditlaw05.FilesRemoves", spec := "filesRemoves", inPlace := ["internal/bytealg.IndexByteString", "internal/bytealg.IndexString", "slices.overlaps[kaudit/api.Entry]"], unfollowed := true, recurses := true, named := ["internal/bytealg.MaxLen"], apart := false }
def FilesRemovesSaid : Prop := filesRemovesRow.holds Tryz.pinned (OpenSpec.ofChange filesRemovesSpec)

/-- ITS FALSE NEIGHBOUR: 'it returns false'. Refute it at one input. -/
def filesRemovesWrong : ChangeSpec := { name := "filesRemoves", fn := fun _ => fun
  | [d] => { results := [.lit (.bool false)], args := [d] }
  | _ => none }
def FilesRemovesWrongFalsely : Prop := filesRemovesRow.holds Tryz.pinned (OpenSpec.ofChange filesRemovesWrong)

/-- 'kauditlaw05.FilesRenames': WHATEVER THE INPUT: true; the input reads as it did. -/
def filesRenamesSpec : ChangeSpec := { name := "filesRenames", fn := fun _ => fun
  | [d] => { results := [.lit (.bool true)], args := [d] }
  | _ => none }
def filesRenamesRow : OpenClaim := { program := "ytafnbpkdenjipaagreat", sum := "376e05da4e02c5592a4b10438de2f53d53f2c528cc5b92153ce898d6ee835a18", func := "kaudit/kauditlaw05.FilesRenames", spec := "filesRenames", inPlace := ["internal/bytealg.IndexByteString", "internal/bytealg.IndexString", "slices.overlaps[kaudit/api.Entry]"], unfollowed := true, recurses := true, named := ["internal/bytealg.MaxLen"], apart := false }
def FilesRenamesSaid : Prop := filesRenamesRow.holds Tryz.pinned (OpenSpec.ofChange filesRenamesSpec)

/-- ITS FALSE NEIGHBOUR: 'it returns false'. Refute it at one input. -/
def filesRenamesWrong : ChangeSpec := { name := "filesRenames", fn := fun _ => fun
  | [d] => { results := [.lit (.bool false)], args := [d] }
  | _ => none }
def FilesRenamesWrongFalsely : Prop := filesRenamesRow.holds Tryz.pinned (OpenSpec.ofChange filesRenamesWrong)

/-- 'kauditlaw05.FilesKeep': WHATEVER THE INPUT: true; the input reads as it did. -/
def filesKeepSpec : ChangeSpec := { name := "filesKeep", fn := fun _ => fun
  | [d] => { results := [.lit (.bool true)], args := [d] }
  | _ => none }
def filesKeepRow : OpenClaim := { program := "ytafnbpkdenjipaagreat", sum := "376e05da4e02c5592a4b10438de2f53d53f2c528cc5b92153ce898d6ee835a18", func := "kaudit/kauditlaw05.FilesKeep", spec := "filesKeep", inPlace := ["internal/bytealg.IndexByteString", "internal/bytealg.IndexString", "slices.overlaps[kaudit/api.Entry]"], unfollowed := true, recurses := true, named := ["internal/bytealg.MaxLen"], apart := false }
def FilesKeepSaid : Prop := filesKeepRow.holds Tryz.pinned (OpenSpec.ofChange filesKeepSpec)

/-- ITS FALSE NEIGHBOUR: 'it returns false'. Refute it at one input. -/
def filesKeepWrong : ChangeSpec := { name := "filesKeep", fn := fun _ => fun
  | [d] => { results := [.lit (.bool false)], args := [d] }
  | _ => none }
def FilesKeepWrongFalsely : Prop := filesKeepRow.holds Tryz.pinned (OpenSpec.ofChange filesKeepWrong)

/-- 'kauditlaw05.FilesNever': WHATEVER THE INPUT: true; the input reads as it did. -/
def filesNeverSpec : ChangeSpec := { name := "filesNever", fn := fun _ => fun
  | [d] => { results := [.lit (.bool true)], args := [d] }
  | _ => none }
def filesNeverRow : OpenClaim := { program := "ytafnbpkdenjipaagreat", sum := "376e05da4e02c5592a4b10438de2f53d53f2c528cc5b92153ce898d6ee835a18", func := "kaudit/kauditlaw05.FilesNever", spec := "filesNever", inPlace := ["internal/bytealg.IndexByteString", "internal/bytealg.IndexString", "slices.overlaps[kaudit/api.Entry]"], unfollowed := true, recurses := true, named := ["internal/bytealg.MaxLen"], apart := false }
def FilesNeverSaid : Prop := filesNeverRow.holds Tryz.pinned (OpenSpec.ofChange filesNeverSpec)

/-- ITS FALSE NEIGHBOUR: 'it returns false'. Refute it at one input. -/
def filesNeverWrong : ChangeSpec := { name := "filesNever", fn := fun _ => fun
  | [d] => { results := [.lit (.bool false)], args := [d] }
  | _ => none }
def FilesNeverWrongFalsely : Prop := filesNeverRow.holds Tryz.pinned (OpenSpec.ofChange filesNeverWrong)

/-- 'kauditlaw05.FilesThere': WHATEVER THE INPUT: true; the input reads as it did. -/
def filesThereSpec : ChangeSpec := { name := "filesThere", fn := fun _ => fun
  | [d] => { results := [.lit (.bool true)], args := [d] }
  | _ => none }
def filesThereRow : OpenClaim := { program := "ytafnbpkdenjipaagreat", sum := "376e05da4e02c5592a4b10438de2f53d53f2c528cc5b92153ce898d6ee835a18", func := "kaudit/kauditlaw05.FilesThere", spec := "filesThere", inPlace := ["internal/bytealg.IndexByteString", "internal/bytealg.IndexString", "slices.overlaps[kaudit/api.Entry]"], unfollowed := true, recurses := true, named := ["internal/bytealg.MaxLen"], apart := false }
def FilesThereSaid : Prop := filesThereRow.holds Tryz.pinned (OpenSpec.ofChange filesThereSpec)

/-- ITS FALSE NEIGHBOUR: 'it returns false'. Refute it at one input. -/
def filesThereWrong : ChangeSpec := { name := "filesThere", fn := fun _ => fun
  | [d] => { results := [.lit (.bool false)], args := [d] }
  | _ => none }
def FilesThereWrongFalsely : Prop := filesThereRow.holds Tryz.pinned (OpenSpec.ofChange filesThereWrong)

/- THE SECOND FORM. 'bulk': how many values and letters a reading holds, each counted each time it is reached (what is shared counts as often as it is met; a slice's spare places count too). A statement '..UptoSaid' is the law's where the arguments, and the package variables that the reading takes, are together of bulk at most 1048576: NARROWER than '..Said'. Prove '..Said' where nothing that the law and all that it calls make is longer than what came in: it says more and counts as full. Else prove '..UptoSaid'. A law counts once. -/
mutual
def uptoBulk {H : Type} : DataW H → Nat
  | .lit (.string bytes) => bytes.length + 1
  | .lit _ => 1
  | .nil => 1
  | .ptr d => uptoBulk d + 1
  | .slice elems spare => uptoBulkAll elems + uptoBulkAll spare + 1
  | .agg parts => uptoBulkAll parts + 1
  | .iface _ d => uptoBulk d + 1
  | .map entries => uptoBulkEntries entries + 1
  | .held _ => 1
def uptoBulkAll {H : Type} : List (DataW H) → Nat
  | [] => 0
  | d :: r => uptoBulk d + uptoBulkAll r
def uptoBulkEntries {H : Type} : List (Lit × DataW H) → Nat
  | [] => 0
  | x :: r => uptoBulkEntry x + uptoBulkEntries r
def uptoBulkEntry {H : Type} : Lit × DataW H → Nat
  | (.string bytes, d) => bytes.length + uptoBulk d + 1
  | (_, d) => uptoBulk d + 1
 end
def uptoSmall : (H : Type) → List (DataW H) → Bool := fun _ ds => decide (uptoBulkAll ds ≤ 1048576)
def OpenSpec.upto (s : _root_.Go.ChangeSpec) : _root_.Go.OpenSpec := { _root_.Go.OpenSpec.ofChange s with cond := some uptoSmall }

/-- 'kauditlaw05.FilesSpoiled', WHERE WHAT IT READS IS OF BULK AT MOST 1048576: true; the input reads as it did. -/
def filesSpoiledUptoRow : OpenClaim := { program := "ytafnbpkdenjipaagreat", sum := "376e05da4e02c5592a4b10438de2f53d53f2c528cc5b92153ce898d6ee835a18", func := "kaudit/kauditlaw05.FilesSpoiled", spec := "filesSpoiled", inPlace := ["internal/bytealg.IndexByteString", "internal/bytealg.IndexString", "slices.overlaps[kaudit/api.Entry]"], unfollowed := true, recurses := true, named := ["internal/bytealg.MaxLen"], apart := false, narrowed := true }
def FilesSpoiledUptoSaid : Prop := filesSpoiledUptoRow.holds Tryz.pinned (OpenSpec.upto filesSpoiledSpec)

/-- 'kauditlaw05.FilesRemoves', WHERE WHAT IT READS IS OF BULK AT MOST 1048576: true; the input reads as it did. -/
def filesRemovesUptoRow : OpenClaim := { program := "ytafnbpkdenjipaagreat", sum := "376e05da4e02c5592a4b10438de2f53d53f2c528cc5b92153ce898d6ee835a18", func := "kaudit/kauditlaw05.FilesRemoves", spec := "filesRemoves", inPlace := ["internal/bytealg.IndexByteString", "internal/bytealg.IndexString", "slices.overlaps[kaudit/api.Entry]"], unfollowed := true, recurses := true, named := ["internal/bytealg.MaxLen"], apart := false, narrowed := true }
def FilesRemovesUptoSaid : Prop := filesRemovesUptoRow.holds Tryz.pinned (OpenSpec.upto filesRemovesSpec)

/-- 'kauditlaw05.FilesRenames', WHERE WHAT IT READS IS OF BULK AT MOST 1048576: true; the input reads as it did. -/
def filesRenamesUptoRow : OpenClaim := { program := "ytafnbpkdenjipaagreat", sum := "376e05da4e02c5592a4b10438de2f53d53f2c528cc5b92153ce898d6ee835a18", func := "kaudit/kauditlaw05.FilesRenames", spec := "filesRenames", inPlace := ["internal/bytealg.IndexByteString", "internal/bytealg.IndexString", "slices.overlaps[kaudit/api.Entry]"], unfollowed := true, recurses := true, named := ["internal/bytealg.MaxLen"], apart := false, narrowed := true }
def FilesRenamesUptoSaid : Prop := filesRenamesUptoRow.holds Tryz.pinned (OpenSpec.upto filesRenamesSpec)

/-- 'kauditlaw05.FilesKeep', WHERE WHAT IT READS IS OF BULK AT MOST 1048576: true; the input reads as it did. -/
def filesKeepUptoRow : OpenClaim := { program := "ytafnbpkdenjipaagreat", sum := "376e05da4e02c5592a4b10438de2f53d53f2c528cc5b92153ce898d6ee835a18", func := "kaudit/kauditlaw05.FilesKeep", spec := "filesKeep", inPlace := ["internal/bytealg.IndexByteString", "internal/bytealg.IndexString", "slices.overlaps[kaudit/api.Entry]"], unfollowed := true, recurses := true, named := ["internal/bytealg.MaxLen"], apart := false, narrowed := true }
def FilesKeepUptoSaid : Prop := filesKeepUptoRow.holds Tryz.pinned (OpenSpec.upto filesKeepSpec)

/-- 'kauditlaw05.FilesNever', WHERE WHAT IT READS IS OF BULK AT MOST 1048576: true; the input reads as it did. -/
def filesNeverUptoRow : OpenClaim := { program := "ytafnbpkdenjipaagreat", sum := "376e05da4e02c5592a4b10438de2f53d53f2c528cc5b92153ce898d6ee835a18", func := "kaudit/kauditlaw05.FilesNever", spec := "filesNever", inPlace := ["internal/bytealg.IndexByteString", "internal/bytealg.IndexString", "slices.overlaps[kaudit/api.Entry]"], unfollowed := true, recurses := true, named := ["internal/bytealg.MaxLen"], apart := false, narrowed := true }
def FilesNeverUptoSaid : Prop := filesNeverUptoRow.holds Tryz.pinned (OpenSpec.upto filesNeverSpec)

/-- 'kauditlaw05.FilesThere', WHERE WHAT IT READS IS OF BULK AT MOST 1048576: true; the input reads as it did. -/
def filesThereUptoRow : OpenClaim := { program := "ytafnbpkdenjipaagreat", sum := "376e05da4e02c5592a4b10438de2f53d53f2c528cc5b92153ce898d6ee835a18", func := "kaudit/kauditlaw05.FilesThere", spec := "filesThere", inPlace := ["internal/bytealg.IndexByteString", "internal/bytealg.IndexString", "slices.overlaps[kaudit/api.Entry]"], unfollowed := true, recurses := true, named := ["internal/bytealg.MaxLen"], apart := false, narrowed := true }
def FilesThereUptoSaid : Prop := filesThereUptoRow.holds Tryz.pinned (OpenSpec.upto filesThereSpec)

end Rows
end Go.Proofs.YtafnbpkdenjipaaGreat
