/-
  NARROWER THAN 'FOR EVERY INPUT', by the rows' own cells (each row's printed sentence says how): FrameBytes: laid · FrameDecodes: laid · FrameTurns: laid · FrameBack: laid · FrameFinds: laid · FrameLong: laid.
  DERIVED. THE GIVEN ROWS OF THIS SEAT. 6 by the template 'for every input the law returns true; each argument reads behind the call as it read before'; 0 by the template 'total and deterministic' (their statements: YtlcenfgnmmkcpaaDoorTotals.lean).
  GIVEN WITH THE SEED: the statements are not yours to turn. If you find one false, say at which input.
  Laid BY PROGRAM, IN A SANDBOX (cutbox-rows.mjs): the forced cells as the released guide's own fill.sh prints them over the translation b43d78f49b7091f1… (all of the seat's roots in one cut). By AI agents, Wed Nov 11 2026. No macro, syntax, notation, axiom, sorry.
-/
import Derived.Test.YtlcenfgnmmkcpaaDoorChecked
import GoSem.Claim
import GoSem.ClaimJoined
import GoSem.ClaimMapViews
import Derived.JoinedTies
import Derived.KernelRfl
namespace Go.Proofs.YtlcenfgnmmkcpaaDoor
/- THE CELL 'sum', in the pinned program and in every row, IS THE sha256 OF THE DUMP (.gsa) THAT YtlcenfgnmmkcpaaDoorProg.lean LOADS. Nothing in Lean hashes anything: it is a label: what it is worth is what the hold of that sum in a sandbox is worth. -/
noncomputable def Tryd.pinned : Pinned := { name := "ytlcenfgnmmkcpaadoor", sum := "b43d78f49b7091f1372e25bdedef4fb4252cc3e623bcf8658b1946b685dcb2ab", checked := Tryd.checked }
namespace Rows
def none {H : Type} : Left H := { results := [], args := [] }

/- WHAT THE LISTED PACKAGE-LEVEL VARIABLES READ AS WHEN THE CALL BEGINS. Each datum BY PROGRAM (the guide's laid-datum.mjs) off the statement by which the dump's own 'gosem.cut.vars' lays the variable. In a bare row this is a premise. The card (YtlcenfgnmmkcpaaDoorCards.lean) ties it to the program's text. -/
def laid_rostrum_frame_errOld {H : Type} : DataW H := .iface "*errors.errorString" (.ptr (.agg [.lit (.string [102, 114, 97, 109, 101, 58, 32, 98, 121, 116, 101, 115, 32, 111, 102, 32, 97, 32, 118, 101, 114, 115, 105, 111, 110, 32, 116, 104, 97, 116, 32, 105, 115, 32, 110, 111, 116, 32, 107, 110, 111, 119, 110])]))
def laid_rostrum_frame_errFrame {H : Type} : DataW H := .iface "*errors.errorString" (.ptr (.agg [.lit (.string [102, 114, 97, 109, 101, 58, 32, 98, 121, 116, 101, 115, 32, 111, 102, 32, 110, 111, 32, 102, 114, 97, 109, 101])]))

/-- 'rostrumlaw02.FrameBytes': WHATEVER THE INPUT: true; the input reads as it did. -/
def frameBytesSpec : ChangeSpec := { name := "frameBytes", fn := fun _ => fun
  | [d] => { results := [.lit (.bool true)], args := [d] }
  | _ => none }
def frameBytesRow : OpenClaim := { program := "ytlcenfgnmmkcpaadoor", sum := "b43d78f49b7091f1372e25bdedef4fb4252cc3e623bcf8658b1946b685dcb2ab", func := "rostrum/rostrumlaw02.FrameBytes", spec := "frameBytes", inPlace := ["internal/abi.NoEscape", "internal/reflectlite.TypeOf"], unfollowed := true, recurses := true, named := ["rostrum/frame.errOld", "rostrum/frame.errFrame"], plainKeys := false, apart := false, laid := [("rostrum/frame.errOld", laid_rostrum_frame_errOld), ("rostrum/frame.errFrame", laid_rostrum_frame_errFrame)] }
def FrameBytesSaid : Prop := frameBytesRow.holds Tryd.pinned (OpenSpec.ofChange frameBytesSpec)

/-- ITS FALSE NEIGHBOUR: 'it returns false'. Refute it at one input. -/
def frameBytesWrong : ChangeSpec := { name := "frameBytes", fn := fun _ => fun
  | [d] => { results := [.lit (.bool false)], args := [d] }
  | _ => none }
def FrameBytesWrongFalsely : Prop := frameBytesRow.holds Tryd.pinned (OpenSpec.ofChange frameBytesWrong)

/-- 'rostrumlaw02.FrameDecodes': WHATEVER THE INPUT: true; the input reads as it did. -/
def frameDecodesSpec : ChangeSpec := { name := "frameDecodes", fn := fun _ => fun
  | [d1, d2] => { results := [.lit (.bool true)], args := [d1, d2] }
  | _ => none }
def frameDecodesRow : OpenClaim := { program := "ytlcenfgnmmkcpaadoor", sum := "b43d78f49b7091f1372e25bdedef4fb4252cc3e623bcf8658b1946b685dcb2ab", func := "rostrum/rostrumlaw02.FrameDecodes", spec := "frameDecodes", inPlace := ["internal/abi.NoEscape", "internal/reflectlite.TypeOf"], unfollowed := true, recurses := true, named := ["rostrum/frame.errOld", "rostrum/frame.errFrame"], plainKeys := false, apart := false, laid := [("rostrum/frame.errOld", laid_rostrum_frame_errOld), ("rostrum/frame.errFrame", laid_rostrum_frame_errFrame)] }
def FrameDecodesSaid : Prop := frameDecodesRow.holds Tryd.pinned (OpenSpec.ofChange frameDecodesSpec)

/-- ITS FALSE NEIGHBOUR: 'it returns false'. Refute it at one input. -/
def frameDecodesWrong : ChangeSpec := { name := "frameDecodes", fn := fun _ => fun
  | [d1, d2] => { results := [.lit (.bool false)], args := [d1, d2] }
  | _ => none }
def FrameDecodesWrongFalsely : Prop := frameDecodesRow.holds Tryd.pinned (OpenSpec.ofChange frameDecodesWrong)

/-- 'rostrumlaw02.FrameTurns': WHATEVER THE INPUT: true; the input reads as it did. -/
def frameTurnsSpec : ChangeSpec := { name := "frameTurns", fn := fun _ => fun
  | [d1, d2, d3] => { results := [.lit (.bool true)], args := [d1, d2, d3] }
  | _ => none }
def frameTurnsRow : OpenClaim := { program := "ytlcenfgnmmkcpaadoor", sum := "b43d78f49b7091f1372e25bdedef4fb4252cc3e623bcf8658b1946b685dcb2ab", func := "rostrum/rostrumlaw02.FrameTurns", spec := "frameTurns", inPlace := ["internal/abi.NoEscape", "internal/reflectlite.TypeOf"], unfollowed := true, recurses := true, named := ["rostrum/frame.errOld", "rostrum/frame.errFrame"], plainKeys := false, apart := false, laid := [("rostrum/frame.errOld", laid_rostrum_frame_errOld), ("rostrum/frame.errFrame", laid_rostrum_frame_errFrame)] }
def FrameTurnsSaid : Prop := frameTurnsRow.holds Tryd.pinned (OpenSpec.ofChange frameTurnsSpec)

/-- ITS FALSE NEIGHBOUR: 'it returns false'. Refute it at one input. -/
def frameTurnsWrong : ChangeSpec := { name := "frameTurns", fn := fun _ => fun
  | [d1, d2, d3] => { results := [.lit (.bool false)], args := [d1, d2, d3] }
  | _ => none }
def FrameTurnsWrongFalsely : Prop := frameTurnsRow.holds Tryd.pinned (OpenSpec.ofChange frameTurnsWrong)

/-- 'rostrumlaw02.FrameBack': WHATEVER THE INPUT: true; the input reads as it did. -/
def frameBackSpec : ChangeSpec := { name := "frameBack", fn := fun _ => fun
  | [d1, d2] => { results := [.lit (.bool true)], args := [d1, d2] }
  | _ => none }
def frameBackRow : OpenClaim := { program := "ytlcenfgnmmkcpaadoor", sum := "b43d78f49b7091f1372e25bdedef4fb4252cc3e623bcf8658b1946b685dcb2ab", func := "rostrum/rostrumlaw02.FrameBack", spec := "frameBack", inPlace := ["internal/abi.NoEscape", "internal/reflectlite.TypeOf"], unfollowed := true, recurses := true, named := ["rostrum/frame.errOld", "rostrum/frame.errFrame"], plainKeys := false, apart := false, laid := [("rostrum/frame.errOld", laid_rostrum_frame_errOld), ("rostrum/frame.errFrame", laid_rostrum_frame_errFrame)] }
def FrameBackSaid : Prop := frameBackRow.holds Tryd.pinned (OpenSpec.ofChange frameBackSpec)

/-- ITS FALSE NEIGHBOUR: 'it returns false'. Refute it at one input. -/
def frameBackWrong : ChangeSpec := { name := "frameBack", fn := fun _ => fun
  | [d1, d2] => { results := [.lit (.bool false)], args := [d1, d2] }
  | _ => none }
def FrameBackWrongFalsely : Prop := frameBackRow.holds Tryd.pinned (OpenSpec.ofChange frameBackWrong)

/-- 'rostrumlaw02.FrameFinds': WHATEVER THE INPUT: true; the input reads as it did. -/
def frameFindsSpec : ChangeSpec := { name := "frameFinds", fn := fun _ => fun
  | [d1, d2, d3] => { results := [.lit (.bool true)], args := [d1, d2, d3] }
  | _ => none }
def frameFindsRow : OpenClaim := { program := "ytlcenfgnmmkcpaadoor", sum := "b43d78f49b7091f1372e25bdedef4fb4252cc3e623bcf8658b1946b685dcb2ab", func := "rostrum/rostrumlaw02.FrameFinds", spec := "frameFinds", inPlace := ["internal/abi.NoEscape", "internal/reflectlite.TypeOf"], unfollowed := true, recurses := true, named := ["rostrum/frame.errOld", "rostrum/frame.errFrame"], plainKeys := false, apart := false, laid := [("rostrum/frame.errOld", laid_rostrum_frame_errOld), ("rostrum/frame.errFrame", laid_rostrum_frame_errFrame)] }
def FrameFindsSaid : Prop := frameFindsRow.holds Tryd.pinned (OpenSpec.ofChange frameFindsSpec)

/-- ITS FALSE NEIGHBOUR: 'it returns false'. Refute it at one input. -/
def frameFindsWrong : ChangeSpec := { name := "frameFinds", fn := fun _ => fun
  | [d1, d2, d3] => { results := [.lit (.bool false)], args := [d1, d2, d3] }
  | _ => none }
def FrameFindsWrongFalsely : Prop := frameFindsRow.holds Tryd.pinned (OpenSpec.ofChange frameFindsWrong)

/-- 'rostrumlaw02.FrameLong': WHATEVER THE INPUT: true; the input reads as it did. -/
def frameLongSpec : ChangeSpec := { name := "frameLong", fn := fun _ => fun
  | [d1, d2] => { results := [.lit (.bool true)], args := [d1, d2] }
  | _ => none }
def frameLongRow : OpenClaim := { program := "ytlcenfgnmmkcpaadoor", sum := "b43d78f49b7091f1372e25bdedef4fb4252cc3e623bcf8658b1946b685dcb2ab", func := "rostrum/rostrumlaw02.FrameLong", spec := "frameLong", inPlace := ["internal/abi.NoEscape", "internal/reflectlite.TypeOf"], unfollowed := true, recurses := true, named := ["rostrum/frame.errOld", "rostrum/frame.errFrame"], plainKeys := false, apart := false, laid := [("rostrum/frame.errOld", laid_rostrum_frame_errOld), ("rostrum/frame.errFrame", laid_rostrum_frame_errFrame)] }
def FrameLongSaid : Prop := frameLongRow.holds Tryd.pinned (OpenSpec.ofChange frameLongSpec)

/-- ITS FALSE NEIGHBOUR: 'it returns false'. Refute it at one input. -/
def frameLongWrong : ChangeSpec := { name := "frameLong", fn := fun _ => fun
  | [d1, d2] => { results := [.lit (.bool false)], args := [d1, d2] }
  | _ => none }
def FrameLongWrongFalsely : Prop := frameLongRow.holds Tryd.pinned (OpenSpec.ofChange frameLongWrong)

/- THE SECOND FORM. 'bulk': how many values and letters a reading holds, each counted each time it is reached (what is shared counts as often as it is met; a slice's spare places count too). A statement '..UptoSaid' is the law's where the arguments, and the package variables that the reading takes, are together of bulk at most 1048576: NARROWER than '..Said'. Prove '..Said' where nothing that the law and all that it calls make is longer than what came in: it says more and counts as full. Else prove '..UptoSaid'. A law counts once. -/
mutual
def uptoBulk {H : Type} : DataW H → Nat
  | .lit (.string bytes) => bytes.length + 1
  | .lit _ => 1
  | .nil => 1
  | .ptr d => uptoBulk d + 1
  | .slice elems spare => uptoBulkAll elems + uptoBulkAll spare + 1
  | .agg parts => uptoBulkAll parts + 1
  | .iface _ d => uptoBulk d + 1
  | .map entries => uptoBulkEntries entries + 1
  | .held _ => 1
def uptoBulkAll {H : Type} : List (DataW H) → Nat
  | [] => 0
  | d :: r => uptoBulk d + uptoBulkAll r
def uptoBulkEntries {H : Type} : List (Lit × DataW H) → Nat
  | [] => 0
  | x :: r => uptoBulkEntry x + uptoBulkEntries r
def uptoBulkEntry {H : Type} : Lit × DataW H → Nat
  | (.string bytes, d) => bytes.length + uptoBulk d + 1
  | (_, d) => uptoBulk d + 1
 end
def uptoSmall : (H : Type) → List (DataW H) → Bool := fun _ ds => decide (uptoBulkAll ds ≤ 1048576)
def OpenSpec.upto (s : _root_.Go.ChangeSpec) : _root_.Go.OpenSpec := { _root_.Go.OpenSpec.ofChange s with cond := some uptoSmall }

/-- 'rostrumlaw02.FrameBytes', WHERE WHAT IT READS IS OF BULK AT MOST 1048576: true; the input reads as it did. -/
def frameBytesUptoRow : OpenClaim := { program := "ytlcenfgnmmkcpaadoor", sum := "b43d78f49b7091f1372e25bdedef4fb4252cc3e623bcf8658b1946b685dcb2ab", func := "rostrum/rostrumlaw02.FrameBytes", spec := "frameBytes", inPlace := ["internal/abi.NoEscape", "internal/reflectlite.TypeOf"], unfollowed := true, recurses := true, named := ["rostrum/frame.errOld", "rostrum/frame.errFrame"], plainKeys := false, apart := false, laid := [("rostrum/frame.errOld", laid_rostrum_frame_errOld), ("rostrum/frame.errFrame", laid_rostrum_frame_errFrame)], narrowed := true }
def FrameBytesUptoSaid : Prop := frameBytesUptoRow.holds Tryd.pinned (OpenSpec.upto frameBytesSpec)

/-- 'rostrumlaw02.FrameDecodes', WHERE WHAT IT READS IS OF BULK AT MOST 1048576: true; the input reads as it did. -/
def frameDecodesUptoRow : OpenClaim := { program := "ytlcenfgnmmkcpaadoor", sum := "b43d78f49b7091f1372e25bdedef4fb4252cc3e623bcf8658b1946b685dcb2ab", func := "rostrum/rostrumlaw02.FrameDecodes", spec := "frameDecodes", inPlace := ["internal/abi.NoEscape", "internal/reflectlite.TypeOf"], unfollowed := true, recurses := true, named := ["rostrum/frame.errOld", "rostrum/frame.errFrame"], plainKeys := false, apart := false, laid := [("rostrum/frame.errOld", laid_rostrum_frame_errOld), ("rostrum/frame.errFrame", laid_rostrum_frame_errFrame)], narrowed := true }
def FrameDecodesUptoSaid : Prop := frameDecodesUptoRow.holds Tryd.pinned (OpenSpec.upto frameDecodesSpec)

/-- 'rostrumlaw02.FrameTurns', WHERE WHAT IT READS IS OF BULK AT MOST 1048576: true; the input reads as it did. -/
def frameTurnsUptoRow : OpenClaim := { program := "ytlcenfgnmmkcpaadoor", sum := "b43d78f49b7091f1372e25bdedef4fb4252cc3e623bcf8658b1946b685dcb2ab", func := "rostrum/rostrumlaw02.FrameTurns", spec := "frameTurns", inPlace := ["internal/abi.NoEscape", "internal/reflectlite.TypeOf"], unfollowed := true, recurses := true, named := ["rostrum/frame.errOld", "rostrum/frame.errFrame"], plainKeys := false, apart := false, laid := [("rostrum/frame.errOld", laid_rostrum_frame_errOld), ("rostrum/frame.errFrame", laid_rostrum_frame_errFrame)], narrowed := true }
def FrameTurnsUptoSaid : Prop := frameTurnsUptoRow.holds Tryd.pinned (OpenSpec.upto frameTurnsSpec)

/-- 'rostrumlaw02.FrameBack', WHERE WHAT IT READS IS OF BULK AT MOST 1048576: true; the input reads as it did. -/
def frameBackUptoRow : OpenClaim := { program := "ytlcenfgnmmkcpaadoor", sum := "b43d78f49b7091f1372e25bdedef4fb4252cc3e623bcf8658b1946b685dcb2ab", func := "rostrum/rostrumlaw02.FrameBack", spec := "frameBack", inPlace := ["internal/abi.NoEscape", "internal/reflectlite.TypeOf"], unfollowed := true, recurses := true, named := ["rostrum/frame.errOld", "rostrum/frame.errFrame"], plainKeys := false, apart := false, laid := [("rostrum/frame.errOld", laid_rostrum_frame_errOld), ("rostrum/frame.errFrame", laid_rostrum_frame_errFrame)], narrowed := true }
def FrameBackUptoSaid : Prop := frameBackUptoRow.holds Tryd.pinned (OpenSpec.upto frameBackSpec)

/-- 'rostrumlaw02.FrameFinds', WHERE WHAT IT READS IS OF BULK AT MOST 1048576: true; the input reads as it did. -/
def frameFindsUptoRow : OpenClaim := { program := "ytlcenfgnmmkcpaadoor", sum := "b43d78f49b7091f1372e25bdedef4fb4252cc3e623bcf8658b1946b685dcb2ab", func := "rostrum/rostrumlaw02.FrameFinds", spec := "frameFinds", inPlace := ["internal/abi.NoEscape", "internal/reflectlite.TypeOf"], unfollowed := true, recurses := true, named := ["rostrum/frame.errOld", "rostrum/frame.errFrame"], plainKeys := false, apart := false, laid := [("rostrum/frame.errOld", laid_rostrum_frame_errOld), ("rostrum/frame.errFrame", laid_rostrum_frame_errFrame)], narrowed := true }
def FrameFindsUptoSaid : Prop := frameFindsUptoRow.holds Tryd.pinned (OpenSpec.upto frameFindsSpec)

/-- 'rostrumlaw02.FrameLong', WHERE WHAT IT READS IS OF BULK AT MOST 1048576: true; the input reads as it did. -/
def frameLongUptoRow : OpenClaim := { program := "ytlcenfgnmmkcpaadoor", sum := "b43d78f49b7091f1372e25bdedef4fb4252cc3e623bcf8658b1946b685dcb2ab", func := "rostrum/rostrumlaw02.FrameLong", spec := "frameLong", inPlace := ["internal/abi.NoEscape", "internal/reflectlite.TypeOf"], unfollowed := true, recurses := true, named := ["rostrum/frame.errOld", "rostrum/frame.errFrame"], plainKeys := false, apart := false, laid := [("rostrum/frame.errOld", laid_rostrum_frame_errOld), ("rostrum/frame.errFrame", laid_rostrum_frame_errFrame)], narrowed := true }
def FrameLongUptoSaid : Prop := frameLongUptoRow.holds Tryd.pinned (OpenSpec.upto frameLongSpec)

end Rows
end Go.Proofs.YtlcenfgnmmkcpaaDoor
