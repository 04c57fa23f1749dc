/-
  NARROWER THAN 'FOR EVERY INPUT', by the rows' own cells (each row's printed sentence says how): InflateAny: laid · InflateTokens: laid · InflateCut: laid.
  DERIVED. THE GIVEN ROWS OF THIS SEAT. 3 by the template 'for every input the law returns true; each argument reads behind the call as it read before'; 0 by the template 'total and deterministic' (their statements: YtackcgiokkbhdaaDoorTotals.lean).
  GIVEN WITH THE SEED: the statements are not yours to turn. If you find one false, say at which input.
  Laid BY PROGRAM, IN A SANDBOX (cutbox-rows.mjs): the forced cells as the released guide's own fill.sh prints them over the translation 0a9f2b9e5f07d5c9… (all of the seat's roots in one cut). By AI agents, Wed Nov 11 2026. No macro, syntax, notation, axiom, sorry.
-/
import Derived.Test.YtackcgiokkbhdaaDoorChecked
import GoSem.Claim
import GoSem.ClaimJoined
import GoSem.ClaimMapViews
import Derived.JoinedTies
import Derived.KernelRfl
namespace Go.Proofs.YtackcgiokkbhdaaDoor
/- THE CELL 'sum', in the pinned program and in every row, IS THE sha256 OF THE DUMP (.gsa) THAT YtackcgiokkbhdaaDoorProg.lean LOADS. Nothing in Lean hashes anything: it is a label: what it is worth is what the hold of that sum in a sandbox is worth. -/
noncomputable def Tryd.pinned : Pinned := { name := "ytackcgiokkbhdaadoor", sum := "0a9f2b9e5f07d5c9382dc1c1ec7a4020de54dfcdcca8d7ade8401dc2b61d7b84", checked := Tryd.checked }
namespace Rows
def none {H : Type} : Left H := { results := [], args := [] }

/- WHAT THE LISTED PACKAGE-LEVEL VARIABLES READ AS WHEN THE CALL BEGINS. Each datum BY PROGRAM (the guide's laid-datum.mjs) off the statement by which the dump's own 'gosem.cut.vars' lays the variable. In a bare row this is a premise. The card (YtackcgiokkbhdaaDoorCards.lean) ties it to the program's text. -/
def laid_montage_inflate_firstOrder {H : Type} : DataW H := .agg [.lit (.int .i64 16), .lit (.int .i64 17), .lit (.int .i64 18), .lit (.int .i64 0), .lit (.int .i64 8), .lit (.int .i64 7), .lit (.int .i64 9), .lit (.int .i64 6), .lit (.int .i64 10), .lit (.int .i64 5), .lit (.int .i64 11), .lit (.int .i64 4), .lit (.int .i64 12), .lit (.int .i64 3), .lit (.int .i64 13), .lit (.int .i64 2), .lit (.int .i64 14), .lit (.int .i64 1), .lit (.int .i64 15)]

/-- 'montagelaw08.InflateAny': WHATEVER THE INPUT: true; the input reads as it did. -/
def inflateAnySpec : ChangeSpec := { name := "inflateAny", fn := fun _ => fun
  | [d1, d2] => { results := [.lit (.bool true)], args := [d1, d2] }
  | _ => none }
def inflateAnyRow : OpenClaim := { program := "ytackcgiokkbhdaadoor", sum := "0a9f2b9e5f07d5c9382dc1c1ec7a4020de54dfcdcca8d7ade8401dc2b61d7b84", func := "montage/montagelaw08.InflateAny", spec := "inflateAny", named := ["montage/inflate.firstOrder"], apart := false, laid := [("montage/inflate.firstOrder", laid_montage_inflate_firstOrder)] }
def InflateAnySaid : Prop := inflateAnyRow.holds Tryd.pinned (OpenSpec.ofChange inflateAnySpec)

/-- ITS FALSE NEIGHBOUR: 'it returns false'. Refute it at one input. -/
def inflateAnyWrong : ChangeSpec := { name := "inflateAny", fn := fun _ => fun
  | [d1, d2] => { results := [.lit (.bool false)], args := [d1, d2] }
  | _ => none }
def InflateAnyWrongFalsely : Prop := inflateAnyRow.holds Tryd.pinned (OpenSpec.ofChange inflateAnyWrong)

/-- 'montagelaw08.InflateTokens': WHATEVER THE INPUT: true; the input reads as it did. -/
def inflateTokensSpec : ChangeSpec := { name := "inflateTokens", fn := fun _ => fun
  | [d] => { results := [.lit (.bool true)], args := [d] }
  | _ => none }
def inflateTokensRow : OpenClaim := { program := "ytackcgiokkbhdaadoor", sum := "0a9f2b9e5f07d5c9382dc1c1ec7a4020de54dfcdcca8d7ade8401dc2b61d7b84", func := "montage/montagelaw08.InflateTokens", spec := "inflateTokens", named := ["montage/inflate.firstOrder"], apart := false, laid := [("montage/inflate.firstOrder", laid_montage_inflate_firstOrder)] }
def InflateTokensSaid : Prop := inflateTokensRow.holds Tryd.pinned (OpenSpec.ofChange inflateTokensSpec)

/-- ITS FALSE NEIGHBOUR: 'it returns false'. Refute it at one input. -/
def inflateTokensWrong : ChangeSpec := { name := "inflateTokens", fn := fun _ => fun
  | [d] => { results := [.lit (.bool false)], args := [d] }
  | _ => none }
def InflateTokensWrongFalsely : Prop := inflateTokensRow.holds Tryd.pinned (OpenSpec.ofChange inflateTokensWrong)

/-- 'montagelaw08.InflateCut': WHATEVER THE INPUT: true; the input reads as it did. -/
def inflateCutSpec : ChangeSpec := { name := "inflateCut", fn := fun _ => fun
  | [d1, d2, d3] => { results := [.lit (.bool true)], args := [d1, d2, d3] }
  | _ => none }
def inflateCutRow : OpenClaim := { program := "ytackcgiokkbhdaadoor", sum := "0a9f2b9e5f07d5c9382dc1c1ec7a4020de54dfcdcca8d7ade8401dc2b61d7b84", func := "montage/montagelaw08.InflateCut", spec := "inflateCut", named := ["montage/inflate.firstOrder"], apart := false, laid := [("montage/inflate.firstOrder", laid_montage_inflate_firstOrder)] }
def InflateCutSaid : Prop := inflateCutRow.holds Tryd.pinned (OpenSpec.ofChange inflateCutSpec)

/-- ITS FALSE NEIGHBOUR: 'it returns false'. Refute it at one input. -/
def inflateCutWrong : ChangeSpec := { name := "inflateCut", fn := fun _ => fun
  | [d1, d2, d3] => { results := [.lit (.bool false)], args := [d1, d2, d3] }
  | _ => none }
def InflateCutWrongFalsely : Prop := inflateCutRow.holds Tryd.pinned (OpenSpec.ofChange inflateCutWrong)

/- THE SECOND FORM. 'bulk': how many values and letters a reading holds, each counted each time it is reached (what is shared counts as often as it is met; a slice's spare places count too). A statement '..UptoSaid' is the law's where the arguments, and the package variables that the reading takes, are together of bulk at most 1048576: NARROWER than '..Said'. Prove '..Said' where nothing that the law and all that it calls make is longer than what came in: it says more and counts as full. Else prove '..UptoSaid'. A law counts once. -/
mutual
def uptoBulk {H : Type} : DataW H → Nat
  | .lit (.string bytes) => bytes.length + 1
  | .lit _ => 1
  | .nil => 1
  | .ptr d => uptoBulk d + 1
  | .slice elems spare => uptoBulkAll elems + uptoBulkAll spare + 1
  | .agg parts => uptoBulkAll parts + 1
  | .iface _ d => uptoBulk d + 1
  | .map entries => uptoBulkEntries entries + 1
  | .held _ => 1
def uptoBulkAll {H : Type} : List (DataW H) → Nat
  | [] => 0
  | d :: r => uptoBulk d + uptoBulkAll r
def uptoBulkEntries {H : Type} : List (Lit × DataW H) → Nat
  | [] => 0
  | x :: r => uptoBulkEntry x + uptoBulkEntries r
def uptoBulkEntry {H : Type} : Lit × DataW H → Nat
  | (.string bytes, d) => bytes.length + uptoBulk d + 1
  | (_, d) => uptoBulk d + 1
 end
def uptoSmall : (H : Type) → List (DataW H) → Bool := fun _ ds => decide (uptoBulkAll ds ≤ 1048576)
def OpenSpec.upto (s : _root_.Go.ChangeSpec) : _root_.Go.OpenSpec := { _root_.Go.OpenSpec.ofChange s with cond := some uptoSmall }

/-- 'montagelaw08.InflateAny', WHERE WHAT IT READS IS OF BULK AT MOST 1048576: true; the input reads as it did. -/
def inflateAnyUptoRow : OpenClaim := { program := "ytackcgiokkbhdaadoor", sum := "0a9f2b9e5f07d5c9382dc1c1ec7a4020de54dfcdcca8d7ade8401dc2b61d7b84", func := "montage/montagelaw08.InflateAny", spec := "inflateAny", named := ["montage/inflate.firstOrder"], apart := false, laid := [("montage/inflate.firstOrder", laid_montage_inflate_firstOrder)], narrowed := true }
def InflateAnyUptoSaid : Prop := inflateAnyUptoRow.holds Tryd.pinned (OpenSpec.upto inflateAnySpec)

/-- 'montagelaw08.InflateTokens', WHERE WHAT IT READS IS OF BULK AT MOST 1048576: true; the input reads as it did. -/
def inflateTokensUptoRow : OpenClaim := { program := "ytackcgiokkbhdaadoor", sum := "0a9f2b9e5f07d5c9382dc1c1ec7a4020de54dfcdcca8d7ade8401dc2b61d7b84", func := "montage/montagelaw08.InflateTokens", spec := "inflateTokens", named := ["montage/inflate.firstOrder"], apart := false, laid := [("montage/inflate.firstOrder", laid_montage_inflate_firstOrder)], narrowed := true }
def InflateTokensUptoSaid : Prop := inflateTokensUptoRow.holds Tryd.pinned (OpenSpec.upto inflateTokensSpec)

/-- 'montagelaw08.InflateCut', WHERE WHAT IT READS IS OF BULK AT MOST 1048576: true; the input reads as it did. -/
def inflateCutUptoRow : OpenClaim := { program := "ytackcgiokkbhdaadoor", sum := "0a9f2b9e5f07d5c9382dc1c1ec7a4020de54dfcdcca8d7ade8401dc2b61d7b84", func := "montage/montagelaw08.InflateCut", spec := "inflateCut", named := ["montage/inflate.firstOrder"], apart := false, laid := [("montage/inflate.firstOrder", laid_montage_inflate_firstOrder)], narrowed := true }
def InflateCutUptoSaid : Prop := inflateCutUptoRow.holds Tryd.pinned (OpenSpec.upto inflateCutSpec)

end Rows
end Go.Proofs.YtackcgiokkbhdaaDoor
