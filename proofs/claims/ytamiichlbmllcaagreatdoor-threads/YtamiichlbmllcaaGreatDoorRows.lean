/-
  NARROWER THAN 'FOR EVERY INPUT', by the rows' own cells (each row's printed sentence says how): Codes: laid · Runs: laid · Proves: laid · Threads: laid · Safe: laid · Within: laid · Accepted: laid · Alike: laid · Narrower: laid · Found: laid.
  DERIVED. THE GIVEN ROWS OF THIS SEAT. 10 by the template 'for every input the law returns true; each argument reads behind the call as it read before'; 0 by the template 'total and deterministic' (their statements: YtamiichlbmllcaaGreatDoorTotals.lean).
  GIVEN WITH THE SEED: the statements are not yours to turn. If you find one false, say at which input.
  Laid BY PROGRAM, IN A SANDBOX (cutbox-rows.mjs): the forced cells as the released guide's own fill.sh prints them over the translation 9cfb088fd56a703c… (all of the seat's roots in one cut). By AI agents, Wed Nov 11 2026. No macro, syntax, notation, axiom, sorry.
-/
import Derived.Test.YtamiichlbmllcaaGreatDoorChecked
import GoSem.Claim
import GoSem.ClaimJoined
import GoSem.ClaimMapViews
import Derived.JoinedTies
import Derived.KernelRfl
namespace Go.Proofs.YtamiichlbmllcaaGreatDoor
/- THE CELL 'sum', in the pinned program and in every row, IS THE sha256 OF THE DUMP (.gsa) THAT YtamiichlbmllcaaGreatDoorProg.lean LOADS. Nothing in Lean hashes anything: it is a label: what it is worth is what the hold of that sum in a sandbox is worth. -/
noncomputable def Tryz.pinned : Pinned := { name := "ytamiichlbmllcaagreatdoor", sum := "9cfb088fd56a703c950f6e4fbae1a45f97d2c61098e11f2be24ccfa668707dd4", checked := Tryz.checked }
namespace Rows
def none {H : Type} : Left H := { results := [], args := [] }

/- WHAT THE LISTED PACKAGE-LEVEL VARIABLES READ AS WHEN THE CALL BEGINS. Each datum BY PROGRAM (the guide's laid-datum.mjs) off the statement by which the dump's own 'gosem.cut.vars' lays the variable. In a bare row this is a premise. The card (YtamiichlbmllcaaGreatDoorCards.lean) ties it to the program's text. -/
def laid_surety_code_shapes {H : Type} : DataW H := .agg [.agg [.lit (.int .i64 0), .lit (.int .i64 0), .lit (.int .i64 1)], .agg [.lit (.int .i64 1), .lit (.int .i64 8), .lit (.int .i64 10)], .agg [.lit (.int .i64 2), .lit (.int .i64 0), .lit (.int .i64 3)], .agg [.lit (.int .i64 3), .lit (.int .i64 0), .lit (.int .i64 4)], .agg [.lit (.int .i64 3), .lit (.int .i64 0), .lit (.int .i64 4)], .agg [.lit (.int .i64 3), .lit (.int .i64 0), .lit (.int .i64 4)], .agg [.lit (.int .i64 3), .lit (.int .i64 0), .lit (.int .i64 4)], .agg [.lit (.int .i64 2), .lit (.int .i64 0), .lit (.int .i64 3)], .agg [.lit (.int .i64 2), .lit (.int .i64 0), .lit (.int .i64 3)], .agg [.lit (.int .i64 0), .lit (.int .i64 1), .lit (.int .i64 2)], .agg [.lit (.int .i64 2), .lit (.int .i64 1), .lit (.int .i64 4)], .agg [.lit (.int .i64 2), .lit (.int .i64 1), .lit (.int .i64 4)]]

/-- 'suretylaw.Codes': WHATEVER THE INPUT: true; the input reads as it did. -/
def codesSpec : ChangeSpec := { name := "codes", fn := fun _ => fun
  | [d] => { results := [.lit (.bool true)], args := [d] }
  | _ => none }
def codesRow : OpenClaim := { program := "ytamiichlbmllcaagreatdoor", sum := "9cfb088fd56a703c950f6e4fbae1a45f97d2c61098e11f2be24ccfa668707dd4", func := "surety/suretylaw.Codes", spec := "codes", unfollowed := true, recurses := true, named := ["surety/code.shapes"], apart := false, laid := [("surety/code.shapes", laid_surety_code_shapes)] }
def CodesSaid : Prop := codesRow.holds Tryz.pinned (OpenSpec.ofChange codesSpec)

/-- ITS FALSE NEIGHBOUR: 'it returns false'. Refute it at one input. -/
def codesWrong : ChangeSpec := { name := "codes", fn := fun _ => fun
  | [d] => { results := [.lit (.bool false)], args := [d] }
  | _ => none }
def CodesWrongFalsely : Prop := codesRow.holds Tryz.pinned (OpenSpec.ofChange codesWrong)

/-- 'suretylaw.Runs': WHATEVER THE INPUT: true; the input reads as it did. -/
def runsSpec : ChangeSpec := { name := "runs", fn := fun _ => fun
  | [d] => { results := [.lit (.bool true)], args := [d] }
  | _ => none }
def runsRow : OpenClaim := { program := "ytamiichlbmllcaagreatdoor", sum := "9cfb088fd56a703c950f6e4fbae1a45f97d2c61098e11f2be24ccfa668707dd4", func := "surety/suretylaw.Runs", spec := "runs", unfollowed := true, recurses := true, named := ["surety/code.shapes"], apart := false, laid := [("surety/code.shapes", laid_surety_code_shapes)] }
def RunsSaid : Prop := runsRow.holds Tryz.pinned (OpenSpec.ofChange runsSpec)

/-- ITS FALSE NEIGHBOUR: 'it returns false'. Refute it at one input. -/
def runsWrong : ChangeSpec := { name := "runs", fn := fun _ => fun
  | [d] => { results := [.lit (.bool false)], args := [d] }
  | _ => none }
def RunsWrongFalsely : Prop := runsRow.holds Tryz.pinned (OpenSpec.ofChange runsWrong)

/-- 'suretylaw.Proves': WHATEVER THE INPUT: true; the input reads as it did. -/
def provesSpec : ChangeSpec := { name := "proves", fn := fun _ => fun
  | [d1, d2] => { results := [.lit (.bool true)], args := [d1, d2] }
  | _ => none }
def provesRow : OpenClaim := { program := "ytamiichlbmllcaagreatdoor", sum := "9cfb088fd56a703c950f6e4fbae1a45f97d2c61098e11f2be24ccfa668707dd4", func := "surety/suretylaw.Proves", spec := "proves", unfollowed := true, recurses := true, named := ["surety/code.shapes"], apart := false, laid := [("surety/code.shapes", laid_surety_code_shapes)] }
def ProvesSaid : Prop := provesRow.holds Tryz.pinned (OpenSpec.ofChange provesSpec)

/-- ITS FALSE NEIGHBOUR: 'it returns false'. Refute it at one input. -/
def provesWrong : ChangeSpec := { name := "proves", fn := fun _ => fun
  | [d1, d2] => { results := [.lit (.bool false)], args := [d1, d2] }
  | _ => none }
def ProvesWrongFalsely : Prop := provesRow.holds Tryz.pinned (OpenSpec.ofChange provesWrong)

/-- 'suretylaw.Threads': WHATEVER THE INPUT: true; the input reads as it did. -/
def threadsSpec : ChangeSpec := { name := "threads", fn := fun _ => fun
  | [d] => { results := [.lit (.bool true)], args := [d] }
  | _ => none }
def threadsRow : OpenClaim := { program := "ytamiichlbmllcaagreatdoor", sum := "9cfb088fd56a703c950f6e4fbae1a45f97d2c61098e11f2be24ccfa668707dd4", func := "surety/suretylaw.Threads", spec := "threads", unfollowed := true, recurses := true, named := ["surety/code.shapes"], apart := false, laid := [("surety/code.shapes", laid_surety_code_shapes)] }
def ThreadsSaid : Prop := threadsRow.holds Tryz.pinned (OpenSpec.ofChange threadsSpec)

/-- ITS FALSE NEIGHBOUR: 'it returns false'. Refute it at one input. -/
def threadsWrong : ChangeSpec := { name := "threads", fn := fun _ => fun
  | [d] => { results := [.lit (.bool false)], args := [d] }
  | _ => none }
def ThreadsWrongFalsely : Prop := threadsRow.holds Tryz.pinned (OpenSpec.ofChange threadsWrong)

/-- 'suretykeep.Safe': WHATEVER THE INPUT: true; the input reads as it did. -/
def safeSpec : ChangeSpec := { name := "safe", fn := fun _ => fun
  | [d1, d2, d3, d4, d5] => { results := [.lit (.bool true)], args := [d1, d2, d3, d4, d5] }
  | _ => none }
def safeRow : OpenClaim := { program := "ytamiichlbmllcaagreatdoor", sum := "9cfb088fd56a703c950f6e4fbae1a45f97d2c61098e11f2be24ccfa668707dd4", func := "surety/suretykeep.Safe", spec := "safe", unfollowed := true, recurses := true, named := ["surety/code.shapes"], apart := false, laid := [("surety/code.shapes", laid_surety_code_shapes)] }
def SafeSaid : Prop := safeRow.holds Tryz.pinned (OpenSpec.ofChange safeSpec)

/-- ITS FALSE NEIGHBOUR: 'it returns false'. Refute it at one input. -/
def safeWrong : ChangeSpec := { name := "safe", fn := fun _ => fun
  | [d1, d2, d3, d4, d5] => { results := [.lit (.bool false)], args := [d1, d2, d3, d4, d5] }
  | _ => none }
def SafeWrongFalsely : Prop := safeRow.holds Tryz.pinned (OpenSpec.ofChange safeWrong)

/-- 'suretykeep.Within': WHATEVER THE INPUT: true; the input reads as it did. -/
def withinSpec : ChangeSpec := { name := "within", fn := fun _ => fun
  | [d1, d2, d3, d4] => { results := [.lit (.bool true)], args := [d1, d2, d3, d4] }
  | _ => none }
def withinRow : OpenClaim := { program := "ytamiichlbmllcaagreatdoor", sum := "9cfb088fd56a703c950f6e4fbae1a45f97d2c61098e11f2be24ccfa668707dd4", func := "surety/suretykeep.Within", spec := "within", unfollowed := true, recurses := true, named := ["surety/code.shapes"], apart := false, laid := [("surety/code.shapes", laid_surety_code_shapes)] }
def WithinSaid : Prop := withinRow.holds Tryz.pinned (OpenSpec.ofChange withinSpec)

/-- ITS FALSE NEIGHBOUR: 'it returns false'. Refute it at one input. -/
def withinWrong : ChangeSpec := { name := "within", fn := fun _ => fun
  | [d1, d2, d3, d4] => { results := [.lit (.bool false)], args := [d1, d2, d3, d4] }
  | _ => none }
def WithinWrongFalsely : Prop := withinRow.holds Tryz.pinned (OpenSpec.ofChange withinWrong)

/-- 'suretykeep.Accepted': WHATEVER THE INPUT: true; the input reads as it did. -/
def acceptedSpec : ChangeSpec := { name := "accepted", fn := fun _ => fun
  | [d1, d2] => { results := [.lit (.bool true)], args := [d1, d2] }
  | _ => none }
def acceptedRow : OpenClaim := { program := "ytamiichlbmllcaagreatdoor", sum := "9cfb088fd56a703c950f6e4fbae1a45f97d2c61098e11f2be24ccfa668707dd4", func := "surety/suretykeep.Accepted", spec := "accepted", unfollowed := true, recurses := true, named := ["surety/code.shapes"], apart := false, laid := [("surety/code.shapes", laid_surety_code_shapes)] }
def AcceptedSaid : Prop := acceptedRow.holds Tryz.pinned (OpenSpec.ofChange acceptedSpec)

/-- ITS FALSE NEIGHBOUR: 'it returns false'. Refute it at one input. -/
def acceptedWrong : ChangeSpec := { name := "accepted", fn := fun _ => fun
  | [d1, d2] => { results := [.lit (.bool false)], args := [d1, d2] }
  | _ => none }
def AcceptedWrongFalsely : Prop := acceptedRow.holds Tryz.pinned (OpenSpec.ofChange acceptedWrong)

/-- 'suretykeep.Alike': WHATEVER THE INPUT: true; the input reads as it did. -/
def alikeSpec : ChangeSpec := { name := "alike", fn := fun _ => fun
  | [d1, d2, d3, d4, d5] => { results := [.lit (.bool true)], args := [d1, d2, d3, d4, d5] }
  | _ => none }
def alikeRow : OpenClaim := { program := "ytamiichlbmllcaagreatdoor", sum := "9cfb088fd56a703c950f6e4fbae1a45f97d2c61098e11f2be24ccfa668707dd4", func := "surety/suretykeep.Alike", spec := "alike", unfollowed := true, recurses := true, named := ["surety/code.shapes"], apart := false, laid := [("surety/code.shapes", laid_surety_code_shapes)] }
def AlikeSaid : Prop := alikeRow.holds Tryz.pinned (OpenSpec.ofChange alikeSpec)

/-- ITS FALSE NEIGHBOUR: 'it returns false'. Refute it at one input. -/
def alikeWrong : ChangeSpec := { name := "alike", fn := fun _ => fun
  | [d1, d2, d3, d4, d5] => { results := [.lit (.bool false)], args := [d1, d2, d3, d4, d5] }
  | _ => none }
def AlikeWrongFalsely : Prop := alikeRow.holds Tryz.pinned (OpenSpec.ofChange alikeWrong)

/-- 'suretykeep.Narrower': WHATEVER THE INPUT: true; the input reads as it did. -/
def narrowerSpec : ChangeSpec := { name := "narrower", fn := fun _ => fun
  | [d1, d2, d3, d4, d5] => { results := [.lit (.bool true)], args := [d1, d2, d3, d4, d5] }
  | _ => none }
def narrowerRow : OpenClaim := { program := "ytamiichlbmllcaagreatdoor", sum := "9cfb088fd56a703c950f6e4fbae1a45f97d2c61098e11f2be24ccfa668707dd4", func := "surety/suretykeep.Narrower", spec := "narrower", unfollowed := true, recurses := true, named := ["surety/code.shapes"], apart := false, laid := [("surety/code.shapes", laid_surety_code_shapes)] }
def NarrowerSaid : Prop := narrowerRow.holds Tryz.pinned (OpenSpec.ofChange narrowerSpec)

/-- ITS FALSE NEIGHBOUR: 'it returns false'. Refute it at one input. -/
def narrowerWrong : ChangeSpec := { name := "narrower", fn := fun _ => fun
  | [d1, d2, d3, d4, d5] => { results := [.lit (.bool false)], args := [d1, d2, d3, d4, d5] }
  | _ => none }
def NarrowerWrongFalsely : Prop := narrowerRow.holds Tryz.pinned (OpenSpec.ofChange narrowerWrong)

/-- 'suretykeep.Found': WHATEVER THE INPUT: true; the input reads as it did. -/
def foundSpec : ChangeSpec := { name := "found", fn := fun _ => fun
  | [d1, d2, d3, d4] => { results := [.lit (.bool true)], args := [d1, d2, d3, d4] }
  | _ => none }
def foundRow : OpenClaim := { program := "ytamiichlbmllcaagreatdoor", sum := "9cfb088fd56a703c950f6e4fbae1a45f97d2c61098e11f2be24ccfa668707dd4", func := "surety/suretykeep.Found", spec := "found", unfollowed := true, recurses := true, named := ["surety/code.shapes"], apart := false, laid := [("surety/code.shapes", laid_surety_code_shapes)] }
def FoundSaid : Prop := foundRow.holds Tryz.pinned (OpenSpec.ofChange foundSpec)

/-- ITS FALSE NEIGHBOUR: 'it returns false'. Refute it at one input. -/
def foundWrong : ChangeSpec := { name := "found", fn := fun _ => fun
  | [d1, d2, d3, d4] => { results := [.lit (.bool false)], args := [d1, d2, d3, d4] }
  | _ => none }
def FoundWrongFalsely : Prop := foundRow.holds Tryz.pinned (OpenSpec.ofChange foundWrong)

/- THE SECOND FORM. 'bulk': how many values and letters a reading holds, each counted each time it is reached (what is shared counts as often as it is met; a slice's spare places count too). A statement '..UptoSaid' is the law's where the arguments, and the package variables that the reading takes, are together of bulk at most 1048576: NARROWER than '..Said'. Prove '..Said' where nothing that the law and all that it calls make is longer than what came in: it says more and counts as full. Else prove '..UptoSaid'. A law counts once. -/
mutual
def uptoBulk {H : Type} : DataW H → Nat
  | .lit (.string bytes) => bytes.length + 1
  | .lit _ => 1
  | .nil => 1
  | .ptr d => uptoBulk d + 1
  | .slice elems spare => uptoBulkAll elems + uptoBulkAll spare + 1
  | .agg parts => uptoBulkAll parts + 1
  | .iface _ d => uptoBulk d + 1
  | .map entries => uptoBulkEntries entries + 1
  | .held _ => 1
def uptoBulkAll {H : Type} : List (DataW H) → Nat
  | [] => 0
  | d :: r => uptoBulk d + uptoBulkAll r
def uptoBulkEntries {H : Type} : List (Lit × DataW H) → Nat
  | [] => 0
  | x :: r => uptoBulkEntry x + uptoBulkEntries r
def uptoBulkEntry {H : Type} : Lit × DataW H → Nat
  | (.string bytes, d) => bytes.length + uptoBulk d + 1
  | (_, d) => uptoBulk d + 1
 end
def uptoSmall : (H : Type) → List (DataW H) → Bool := fun _ ds => decide (uptoBulkAll ds ≤ 1048576)
def OpenSpec.upto (s : _root_.Go.ChangeSpec) : _root_.Go.OpenSpec := { _root_.Go.OpenSpec.ofChange s with cond := some uptoSmall }

/-- 'suretylaw.Codes', WHERE WHAT IT READS IS OF BULK AT MOST 1048576: true; the input reads as it did. -/
def codesUptoRow : OpenClaim := { program := "ytamiichlbmllcaagreatdoor", sum := "9cfb088fd56a703c950f6e4fbae1a45f97d2c61098e11f2be24ccfa668707dd4", func := "surety/suretylaw.Codes", spec := "codes", unfollowed := true, recurses := true, named := ["surety/code.shapes"], apart := false, laid := [("surety/code.shapes", laid_surety_code_shapes)], narrowed := true }
def CodesUptoSaid : Prop := codesUptoRow.holds Tryz.pinned (OpenSpec.upto codesSpec)

/-- 'suretylaw.Runs', WHERE WHAT IT READS IS OF BULK AT MOST 1048576: true; the input reads as it did. -/
def runsUptoRow : OpenClaim := { program := "ytamiichlbmllcaagreatdoor", sum := "9cfb088fd56a703c950f6e4fbae1a45f97d2c61098e11f2be24ccfa668707dd4", func := "surety/suretylaw.Runs", spec := "runs", unfollowed := true, recurses := true, named := ["surety/code.shapes"], apart := false, laid := [("surety/code.shapes", laid_surety_code_shapes)], narrowed := true }
def RunsUptoSaid : Prop := runsUptoRow.holds Tryz.pinned (OpenSpec.upto runsSpec)

/-- 'suretylaw.Proves', WHERE WHAT IT READS IS OF BULK AT MOST 1048576: true; the input reads as it did. -/
def provesUptoRow : OpenClaim := { program := "ytamiichlbmllcaagreatdoor", sum := "9cfb088fd56a703c950f6e4fbae1a45f97d2c61098e11f2be24ccfa668707dd4", func := "surety/suretylaw.Proves", spec := "proves", unfollowed := true, recurses := true, named := ["surety/code.shapes"], apart := false, laid := [("surety/code.shapes", laid_surety_code_shapes)], narrowed := true }
def ProvesUptoSaid : Prop := provesUptoRow.holds Tryz.pinned (OpenSpec.upto provesSpec)

/-- 'suretylaw.Threads', WHERE WHAT IT READS IS OF BULK AT MOST 1048576: true; the input reads as it did. -/
def threadsUptoRow : OpenClaim := { program := "ytamiichlbmllcaagreatdoor", sum := "9cfb088fd56a703c950f6e4fbae1a45f97d2c61098e11f2be24ccfa668707dd4", func := "surety/suretylaw.Threads", spec := "threads", unfollowed := true, recurses := true, named := ["surety/code.shapes"], apart := false, laid := [("surety/code.shapes", laid_surety_code_shapes)], narrowed := true }
def ThreadsUptoSaid : Prop := threadsUptoRow.holds Tryz.pinned (OpenSpec.upto threadsSpec)

/-- 'suretykeep.Safe', WHERE WHAT IT READS IS OF BULK AT MOST 1048576: true; the input reads as it did. -/
def safeUptoRow : OpenClaim := { program := "ytamiichlbmllcaagreatdoor", sum := "9cfb088fd56a703c950f6e4fbae1a45f97d2c61098e11f2be24ccfa668707dd4", func := "surety/suretykeep.Safe", spec := "safe", unfollowed := true, recurses := true, named := ["surety/code.shapes"], apart := false, laid := [("surety/code.shapes", laid_surety_code_shapes)], narrowed := true }
def SafeUptoSaid : Prop := safeUptoRow.holds Tryz.pinned (OpenSpec.upto safeSpec)

/-- 'suretykeep.Within', WHERE WHAT IT READS IS OF BULK AT MOST 1048576: true; the input reads as it did. -/
def withinUptoRow : OpenClaim := { program := "ytamiichlbmllcaagreatdoor", sum := "9cfb088fd56a703c950f6e4fbae1a45f97d2c61098e11f2be24ccfa668707dd4", func := "surety/suretykeep.Within", spec := "within", unfollowed := true, recurses := true, named := ["surety/code.shapes"], apart := false, laid := [("surety/code.shapes", laid_surety_code_shapes)], narrowed := true }
def WithinUptoSaid : Prop := withinUptoRow.holds Tryz.pinned (OpenSpec.upto withinSpec)

/-- 'suretykeep.Accepted', WHERE WHAT IT READS IS OF BULK AT MOST 1048576: true; the input reads as it did. -/
def acceptedUptoRow : OpenClaim := { program := "ytamiichlbmllcaagreatdoor", sum := "9cfb088fd56a703c950f6e4fbae1a45f97d2c61098e11f2be24ccfa668707dd4", func := "surety/suretykeep.Accepted", spec := "accepted", unfollowed := true, recurses := true, named := ["surety/code.shapes"], apart := false, laid := [("surety/code.shapes", laid_surety_code_shapes)], narrowed := true }
def AcceptedUptoSaid : Prop := acceptedUptoRow.holds Tryz.pinned (OpenSpec.upto acceptedSpec)

/-- 'suretykeep.Alike', WHERE WHAT IT READS IS OF BULK AT MOST 1048576: true; the input reads as it did. -/
def alikeUptoRow : OpenClaim := { program := "ytamiichlbmllcaagreatdoor", sum := "9cfb088fd56a703c950f6e4fbae1a45f97d2c61098e11f2be24ccfa668707dd4", func := "surety/suretykeep.Alike", spec := "alike", unfollowed := true, recurses := true, named := ["surety/code.shapes"], apart := false, laid := [("surety/code.shapes", laid_surety_code_shapes)], narrowed := true }
def AlikeUptoSaid : Prop := alikeUptoRow.holds Tryz.pinned (OpenSpec.upto alikeSpec)

/-- 'suretykeep.Narrower', WHERE WHAT IT READS IS OF BULK AT MOST 1048576: true; the input reads as it did. -/
def narrowerUptoRow : OpenClaim := { program := "ytamiichlbmllcaagreatdoor", sum := "9cfb088fd56a703c950f6e4fbae1a45f97d2c61098e11f2be24ccfa668707dd4", func := "surety/suretykeep.Narrower", spec := "narrower", unfollowed := true, recurses := true, named := ["surety/code.shapes"], apart := false, laid := [("surety/code.shapes", laid_surety_code_shapes)], narrowed := true }
def NarrowerUptoSaid : Prop := narrowerUptoRow.holds Tryz.pinned (OpenSpec.upto narrowerSpec)

/-- 'suretykeep.Found', WHERE WHAT IT READS IS OF BULK AT MOST 1048576: true; the input reads as it did. -/
def foundUptoRow : OpenClaim := { program := "ytamiichlbmllcaagreatdoor", sum := "9cfb088fd56a703c950f6e4fbae1a45f97d2c61098e11f2be24ccfa668707dd4", func := "surety/suretykeep.Found", spec := "found", unfollowed := true, recurses := true, named := ["surety/code.shapes"], apart := false, laid := [("surety/code.shapes", laid_surety_code_shapes)], narrowed := true }
def FoundUptoSaid : Prop := foundUptoRow.holds Tryz.pinned (OpenSpec.upto foundSpec)

end Rows
end Go.Proofs.YtamiichlbmllcaaGreatDoor
