/-
  No cell of these rows narrows 'for every input' (looked for: loops, veiled, ifaces, maps, wideKeys, modest, calm, conditions, laid).
  DERIVED. THE GIVEN ROWS OF THIS SEAT. 10 by the template 'for every input the law returns true; each argument reads behind the call as it read before'; 0 by the template 'total and deterministic' (their statements: YtpofmnfkdkmieaaGreatTotals.lean).
  GIVEN WITH THE SEED: the statements are not yours to turn. If you find one false, say at which input.
  Laid BY PROGRAM, IN A SANDBOX (cutbox-rows.mjs): the forced cells as the released guide's own fill.sh prints them over the translation 28028890a1a294d8… (all of the seat's roots in one cut). By AI agents, Wed Nov 11 2026. No macro, syntax, notation, axiom, sorry.
-/
import Derived.Test.YtpofmnfkdkmieaaGreatChecked
import GoSem.Claim
import GoSem.ClaimJoined
import GoSem.ClaimMapViews
import Derived.JoinedTies
import Derived.KernelRfl
namespace Go.Proofs.YtpofmnfkdkmieaaGreat
/- THE CELL 'sum', in the pinned program and in every row, IS THE sha256 OF THE DUMP (.gsa) THAT YtpofmnfkdkmieaaGreatProg.lean LOADS. Nothing in Lean hashes anything: it is a label: what it is worth is what the hold of that sum in a sandbox is worth. -/
noncomputable def Tryz.pinned : Pinned := { name := "ytpofmnfkdkmieaagreat", sum := "28028890a1a294d83720818446a7d0d75517d1ac64aa3ac48c3755f44a2e0157", checked := Tryz.checked }
namespace Rows
def none {H : Type} : Left H := { results := [], args := [] }

/-- 'atriumlaw.Forms': WHATEVER THE INPUT: true; the input reads as it did. -/
def formsSpec : ChangeSpec := { name := "forms", fn := fun _ => fun
  | [d1, d2] => { results := [.lit (.bool true)], args := [d1, d2] }
  | _ => none }
def formsRow : OpenClaim := { program := "ytpofmnfkdkmieaagreat", sum := "28028890a1a294d83720818446a7d0d75517d1ac64aa3ac48c3755f44a2e0157", func := "atrium/atriumlaw.Forms", spec := "forms", unfollowed := true, recurses := true, plainKeys := false, apart := false }
def FormsSaid : Prop := formsRow.holds Tryz.pinned (OpenSpec.ofChange formsSpec)

/-- ITS FALSE NEIGHBOUR: 'it returns false'. Refute it at one input. -/
def formsWrong : ChangeSpec := { name := "forms", fn := fun _ => fun
  | [d1, d2] => { results := [.lit (.bool false)], args := [d1, d2] }
  | _ => none }
def FormsWrongFalsely : Prop := formsRow.holds Tryz.pinned (OpenSpec.ofChange formsWrong)

/-- 'atriumlaw.Checks': WHATEVER THE INPUT: true; the input reads as it did. -/
def checksSpec : ChangeSpec := { name := "checks", fn := fun _ => fun
  | [d] => { results := [.lit (.bool true)], args := [d] }
  | _ => none }
def checksRow : OpenClaim := { program := "ytpofmnfkdkmieaagreat", sum := "28028890a1a294d83720818446a7d0d75517d1ac64aa3ac48c3755f44a2e0157", func := "atrium/atriumlaw.Checks", spec := "checks", unfollowed := true, recurses := true, plainKeys := false, apart := false }
def ChecksSaid : Prop := checksRow.holds Tryz.pinned (OpenSpec.ofChange checksSpec)

/-- ITS FALSE NEIGHBOUR: 'it returns false'. Refute it at one input. -/
def checksWrong : ChangeSpec := { name := "checks", fn := fun _ => fun
  | [d] => { results := [.lit (.bool false)], args := [d] }
  | _ => none }
def ChecksWrongFalsely : Prop := checksRow.holds Tryz.pinned (OpenSpec.ofChange checksWrong)

/-- 'atriumlaw.Runs': WHATEVER THE INPUT: true; the input reads as it did. -/
def runsSpec : ChangeSpec := { name := "runs", fn := fun _ => fun
  | [d1, d2, d3] => { results := [.lit (.bool true)], args := [d1, d2, d3] }
  | _ => none }
def runsRow : OpenClaim := { program := "ytpofmnfkdkmieaagreat", sum := "28028890a1a294d83720818446a7d0d75517d1ac64aa3ac48c3755f44a2e0157", func := "atrium/atriumlaw.Runs", spec := "runs", unfollowed := true, recurses := true, plainKeys := false, apart := false }
def RunsSaid : Prop := runsRow.holds Tryz.pinned (OpenSpec.ofChange runsSpec)

/-- ITS FALSE NEIGHBOUR: 'it returns false'. Refute it at one input. -/
def runsWrong : ChangeSpec := { name := "runs", fn := fun _ => fun
  | [d1, d2, d3] => { results := [.lit (.bool false)], args := [d1, d2, d3] }
  | _ => none }
def RunsWrongFalsely : Prop := runsRow.holds Tryz.pinned (OpenSpec.ofChange runsWrong)

/-- 'atriumkeep.Reread': WHATEVER THE INPUT: true; the input reads as it did. -/
def rereadSpec : ChangeSpec := { name := "reread", fn := fun _ => fun
  | [d1, d2, d3] => { results := [.lit (.bool true)], args := [d1, d2, d3] }
  | _ => none }
def rereadRow : OpenClaim := { program := "ytpofmnfkdkmieaagreat", sum := "28028890a1a294d83720818446a7d0d75517d1ac64aa3ac48c3755f44a2e0157", func := "atrium/atriumkeep.Reread", spec := "reread", unfollowed := true, recurses := true, plainKeys := false, apart := false }
def RereadSaid : Prop := rereadRow.holds Tryz.pinned (OpenSpec.ofChange rereadSpec)

/-- ITS FALSE NEIGHBOUR: 'it returns false'. Refute it at one input. -/
def rereadWrong : ChangeSpec := { name := "reread", fn := fun _ => fun
  | [d1, d2, d3] => { results := [.lit (.bool false)], args := [d1, d2, d3] }
  | _ => none }
def RereadWrongFalsely : Prop := rereadRow.holds Tryz.pinned (OpenSpec.ofChange rereadWrong)

/-- 'atriumkeep.Sums': WHATEVER THE INPUT: true; the input reads as it did. -/
def sumsSpec : ChangeSpec := { name := "sums", fn := fun _ => fun
  | [d1, d2, d3] => { results := [.lit (.bool true)], args := [d1, d2, d3] }
  | _ => none }
def sumsRow : OpenClaim := { program := "ytpofmnfkdkmieaagreat", sum := "28028890a1a294d83720818446a7d0d75517d1ac64aa3ac48c3755f44a2e0157", func := "atrium/atriumkeep.Sums", spec := "sums", unfollowed := true, recurses := true, plainKeys := false, apart := false }
def SumsSaid : Prop := sumsRow.holds Tryz.pinned (OpenSpec.ofChange sumsSpec)

/-- ITS FALSE NEIGHBOUR: 'it returns false'. Refute it at one input. -/
def sumsWrong : ChangeSpec := { name := "sums", fn := fun _ => fun
  | [d1, d2, d3] => { results := [.lit (.bool false)], args := [d1, d2, d3] }
  | _ => none }
def SumsWrongFalsely : Prop := sumsRow.holds Tryz.pinned (OpenSpec.ofChange sumsWrong)

/-- 'atriumkeep.Lined': WHATEVER THE INPUT: true; the input reads as it did. -/
def linedSpec : ChangeSpec := { name := "lined", fn := fun _ => fun
  | [d1, d2] => { results := [.lit (.bool true)], args := [d1, d2] }
  | _ => none }
def linedRow : OpenClaim := { program := "ytpofmnfkdkmieaagreat", sum := "28028890a1a294d83720818446a7d0d75517d1ac64aa3ac48c3755f44a2e0157", func := "atrium/atriumkeep.Lined", spec := "lined", unfollowed := true, recurses := true, plainKeys := false, apart := false }
def LinedSaid : Prop := linedRow.holds Tryz.pinned (OpenSpec.ofChange linedSpec)

/-- ITS FALSE NEIGHBOUR: 'it returns false'. Refute it at one input. -/
def linedWrong : ChangeSpec := { name := "lined", fn := fun _ => fun
  | [d1, d2] => { results := [.lit (.bool false)], args := [d1, d2] }
  | _ => none }
def LinedWrongFalsely : Prop := linedRow.holds Tryz.pinned (OpenSpec.ofChange linedWrong)

/-- 'atriumkeep.Unasked': WHATEVER THE INPUT: true; the input reads as it did. -/
def unaskedSpec : ChangeSpec := { name := "unasked", fn := fun _ => fun
  | [d1, d2, d3, d4, d5] => { results := [.lit (.bool true)], args := [d1, d2, d3, d4, d5] }
  | _ => none }
def unaskedRow : OpenClaim := { program := "ytpofmnfkdkmieaagreat", sum := "28028890a1a294d83720818446a7d0d75517d1ac64aa3ac48c3755f44a2e0157", func := "atrium/atriumkeep.Unasked", spec := "unasked", unfollowed := true, recurses := true, plainKeys := false, apart := false }
def UnaskedSaid : Prop := unaskedRow.holds Tryz.pinned (OpenSpec.ofChange unaskedSpec)

/-- ITS FALSE NEIGHBOUR: 'it returns false'. Refute it at one input. -/
def unaskedWrong : ChangeSpec := { name := "unasked", fn := fun _ => fun
  | [d1, d2, d3, d4, d5] => { results := [.lit (.bool false)], args := [d1, d2, d3, d4, d5] }
  | _ => none }
def UnaskedWrongFalsely : Prop := unaskedRow.holds Tryz.pinned (OpenSpec.ofChange unaskedWrong)

/-- 'atriumkeep.Further': WHATEVER THE INPUT: true; the input reads as it did. -/
def furtherSpec : ChangeSpec := { name := "further", fn := fun _ => fun
  | [d1, d2, d3] => { results := [.lit (.bool true)], args := [d1, d2, d3] }
  | _ => none }
def furtherRow : OpenClaim := { program := "ytpofmnfkdkmieaagreat", sum := "28028890a1a294d83720818446a7d0d75517d1ac64aa3ac48c3755f44a2e0157", func := "atrium/atriumkeep.Further", spec := "further", unfollowed := true, recurses := true, plainKeys := false, apart := false }
def FurtherSaid : Prop := furtherRow.holds Tryz.pinned (OpenSpec.ofChange furtherSpec)

/-- ITS FALSE NEIGHBOUR: 'it returns false'. Refute it at one input. -/
def furtherWrong : ChangeSpec := { name := "further", fn := fun _ => fun
  | [d1, d2, d3] => { results := [.lit (.bool false)], args := [d1, d2, d3] }
  | _ => none }
def FurtherWrongFalsely : Prop := furtherRow.holds Tryz.pinned (OpenSpec.ofChange furtherWrong)

/-- 'atriumkeep.Once': WHATEVER THE INPUT: true; the input reads as it did. -/
def onceSpec : ChangeSpec := { name := "once", fn := fun _ => fun
  | [d1, d2] => { results := [.lit (.bool true)], args := [d1, d2] }
  | _ => none }
def onceRow : OpenClaim := { program := "ytpofmnfkdkmieaagreat", sum := "28028890a1a294d83720818446a7d0d75517d1ac64aa3ac48c3755f44a2e0157", func := "atrium/atriumkeep.Once", spec := "once", unfollowed := true, recurses := true, plainKeys := false, apart := false }
def OnceSaid : Prop := onceRow.holds Tryz.pinned (OpenSpec.ofChange onceSpec)

/-- ITS FALSE NEIGHBOUR: 'it returns false'. Refute it at one input. -/
def onceWrong : ChangeSpec := { name := "once", fn := fun _ => fun
  | [d1, d2] => { results := [.lit (.bool false)], args := [d1, d2] }
  | _ => none }
def OnceWrongFalsely : Prop := onceRow.holds Tryz.pinned (OpenSpec.ofChange onceWrong)

/-- 'atriumlaw.All': WHATEVER THE INPUT: true; the input reads as it did. -/
def allSpec : ChangeSpec := { name := "all", fn := fun _ => fun
  | [d] => { results := [.lit (.bool true)], args := [d] }
  | _ => none }
def allRow : OpenClaim := { program := "ytpofmnfkdkmieaagreat", sum := "28028890a1a294d83720818446a7d0d75517d1ac64aa3ac48c3755f44a2e0157", func := "atrium/atriumlaw.All", spec := "all", unfollowed := true, recurses := true, plainKeys := false, apart := false }
def AllSaid : Prop := allRow.holds Tryz.pinned (OpenSpec.ofChange allSpec)

/-- ITS FALSE NEIGHBOUR: 'it returns false'. Refute it at one input. -/
def allWrong : ChangeSpec := { name := "all", fn := fun _ => fun
  | [d] => { results := [.lit (.bool false)], args := [d] }
  | _ => none }
def AllWrongFalsely : Prop := allRow.holds Tryz.pinned (OpenSpec.ofChange allWrong)

/- THE SECOND FORM. 'bulk': how many values and letters a reading holds, each counted each time it is reached (what is shared counts as often as it is met; a slice's spare places count too). A statement '..UptoSaid' is the law's where the arguments, and the package variables that the reading takes, are together of bulk at most 1048576: NARROWER than '..Said'. Prove '..Said' where nothing that the law and all that it calls make is longer than what came in: it says more and counts as full. Else prove '..UptoSaid'. A law counts once. -/
mutual
def uptoBulk {H : Type} : DataW H → Nat
  | .lit (.string bytes) => bytes.length + 1
  | .lit _ => 1
  | .nil => 1
  | .ptr d => uptoBulk d + 1
  | .slice elems spare => uptoBulkAll elems + uptoBulkAll spare + 1
  | .agg parts => uptoBulkAll parts + 1
  | .iface _ d => uptoBulk d + 1
  | .map entries => uptoBulkEntries entries + 1
  | .held _ => 1
def uptoBulkAll {H : Type} : List (DataW H) → Nat
  | [] => 0
  | d :: r => uptoBulk d + uptoBulkAll r
def uptoBulkEntries {H : Type} : List (Lit × DataW H) → Nat
  | [] => 0
  | x :: r => uptoBulkEntry x + uptoBulkEntries r
def uptoBulkEntry {H : Type} : Lit × DataW H → Nat
  | (.string bytes, d) => bytes.length + uptoBulk d + 1
  | (_, d) => uptoBulk d + 1
 end
def uptoSmall : (H : Type) → List (DataW H) → Bool := fun _ ds => decide (uptoBulkAll ds ≤ 1048576)
def OpenSpec.upto (s : _root_.Go.ChangeSpec) : _root_.Go.OpenSpec := { _root_.Go.OpenSpec.ofChange s with cond := some uptoSmall }

/-- 'atriumlaw.Forms', WHERE WHAT IT READS IS OF BULK AT MOST 1048576: true; the input reads as it did. -/
def formsUptoRow : OpenClaim := { program := "ytpofmnfkdkmieaagreat", sum := "28028890a1a294d83720818446a7d0d75517d1ac64aa3ac48c3755f44a2e0157", func := "atrium/atriumlaw.Forms", spec := "forms", unfollowed := true, recurses := true, plainKeys := false, apart := false, narrowed := true }
def FormsUptoSaid : Prop := formsUptoRow.holds Tryz.pinned (OpenSpec.upto formsSpec)

/-- 'atriumlaw.Checks', WHERE WHAT IT READS IS OF BULK AT MOST 1048576: true; the input reads as it did. -/
def checksUptoRow : OpenClaim := { program := "ytpofmnfkdkmieaagreat", sum := "28028890a1a294d83720818446a7d0d75517d1ac64aa3ac48c3755f44a2e0157", func := "atrium/atriumlaw.Checks", spec := "checks", unfollowed := true, recurses := true, plainKeys := false, apart := false, narrowed := true }
def ChecksUptoSaid : Prop := checksUptoRow.holds Tryz.pinned (OpenSpec.upto checksSpec)

/-- 'atriumlaw.Runs', WHERE WHAT IT READS IS OF BULK AT MOST 1048576: true; the input reads as it did. -/
def runsUptoRow : OpenClaim := { program := "ytpofmnfkdkmieaagreat", sum := "28028890a1a294d83720818446a7d0d75517d1ac64aa3ac48c3755f44a2e0157", func := "atrium/atriumlaw.Runs", spec := "runs", unfollowed := true, recurses := true, plainKeys := false, apart := false, narrowed := true }
def RunsUptoSaid : Prop := runsUptoRow.holds Tryz.pinned (OpenSpec.upto runsSpec)

/-- 'atriumkeep.Reread', WHERE WHAT IT READS IS OF BULK AT MOST 1048576: true; the input reads as it did. -/
def rereadUptoRow : OpenClaim := { program := "ytpofmnfkdkmieaagreat", sum := "28028890a1a294d83720818446a7d0d75517d1ac64aa3ac48c3755f44a2e0157", func := "atrium/atriumkeep.Reread", spec := "reread", unfollowed := true, recurses := true, plainKeys := false, apart := false, narrowed := true }
def RereadUptoSaid : Prop := rereadUptoRow.holds Tryz.pinned (OpenSpec.upto rereadSpec)

/-- 'atriumkeep.Sums', WHERE WHAT IT READS IS OF BULK AT MOST 1048576: true; the input reads as it did. -/
def sumsUptoRow : OpenClaim := { program := "ytpofmnfkdkmieaagreat", sum := "28028890a1a294d83720818446a7d0d75517d1ac64aa3ac48c3755f44a2e0157", func := "atrium/atriumkeep.Sums", spec := "sums", unfollowed := true, recurses := true, plainKeys := false, apart := false, narrowed := true }
def SumsUptoSaid : Prop := sumsUptoRow.holds Tryz.pinned (OpenSpec.upto sumsSpec)

/-- 'atriumkeep.Lined', WHERE WHAT IT READS IS OF BULK AT MOST 1048576: true; the input reads as it did. -/
def linedUptoRow : OpenClaim := { program := "ytpofmnfkdkmieaagreat", sum := "28028890a1a294d83720818446a7d0d75517d1ac64aa3ac48c3755f44a2e0157", func := "atrium/atriumkeep.Lined", spec := "lined", unfollowed := true, recurses := true, plainKeys := false, apart := false, narrowed := true }
def LinedUptoSaid : Prop := linedUptoRow.holds Tryz.pinned (OpenSpec.upto linedSpec)

/-- 'atriumkeep.Unasked', WHERE WHAT IT READS IS OF BULK AT MOST 1048576: true; the input reads as it did. -/
def unaskedUptoRow : OpenClaim := { program := "ytpofmnfkdkmieaagreat", sum := "28028890a1a294d83720818446a7d0d75517d1ac64aa3ac48c3755f44a2e0157", func := "atrium/atriumkeep.Unasked", spec := "unasked", unfollowed := true, recurses := true, plainKeys := false, apart := false, narrowed := true }
def UnaskedUptoSaid : Prop := unaskedUptoRow.holds Tryz.pinned (OpenSpec.upto unaskedSpec)

/-- 'atriumkeep.Further', WHERE WHAT IT READS IS OF BULK AT MOST 1048576: true; the input reads as it did. -/
def furtherUptoRow : OpenClaim := { program := "ytpofmnfkdkmieaagreat", sum := "28028890a1a294d83720818446a7d0d75517d1ac64aa3ac48c3755f44a2e0157", func := "atrium/atriumkeep.Further", spec := "further", unfollowed := true, recurses := true, plainKeys := false, apart := false, narrowed := true }
def FurtherUptoSaid : Prop := furtherUptoRow.holds Tryz.pinned (OpenSpec.upto furtherSpec)

/-- 'atriumkeep.Once', WHERE WHAT IT READS IS OF BULK AT MOST 1048576: true; the input reads as it did. -/
def onceUptoRow : OpenClaim := { program := "ytpofmnfkdkmieaagreat", sum := "28028890a1a294d83720818446a7d0d75517d1ac64aa3ac48c3755f44a2e0157", func := "atrium/atriumkeep.Once", spec := "once", unfollowed := true, recurses := true, plainKeys := false, apart := false, narrowed := true }
def OnceUptoSaid : Prop := onceUptoRow.holds Tryz.pinned (OpenSpec.upto onceSpec)

/-- 'atriumlaw.All', WHERE WHAT IT READS IS OF BULK AT MOST 1048576: true; the input reads as it did. -/
def allUptoRow : OpenClaim := { program := "ytpofmnfkdkmieaagreat", sum := "28028890a1a294d83720818446a7d0d75517d1ac64aa3ac48c3755f44a2e0157", func := "atrium/atriumlaw.All", spec := "all", unfollowed := true, recurses := true, plainKeys := false, apart := false, narrowed := true }
def AllUptoSaid : Prop := allUptoRow.holds Tryz.pinned (OpenSpec.upto allSpec)

end Rows
end Go.Proofs.YtpofmnfkdkmieaaGreat
