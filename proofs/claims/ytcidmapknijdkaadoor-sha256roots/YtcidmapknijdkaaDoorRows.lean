/-
  NARROWER THAN 'FOR EVERY INPUT', by the rows' own cells (each row's printed sentence says how): Sha256Sum: laid · Sha256Block: laid · Sha256Blocks: laid · Sha256Long: laid · Sha256Roots: laid.
  DERIVED. THE GIVEN ROWS OF THIS SEAT. 5 by the template 'for every input the law returns true; each argument reads behind the call as it read before'; 0 by the template 'total and deterministic' (their statements: YtcidmapknijdkaaDoorTotals.lean).
  GIVEN WITH THE SEED: the statements are not yours to turn. If you find one false, say at which input.
  Laid BY PROGRAM, IN A SANDBOX (cutbox-rows.mjs): the forced cells as the released guide's own fill.sh prints them over the translation 6cfa53c68c4063c2… (all of the seat's roots in one cut). By AI agents, Wed Nov 11 2026. No macro, syntax, notation, axiom, sorry.
-/
import Derived.Test.YtcidmapknijdkaaDoorChecked
import GoSem.Claim
import GoSem.ClaimJoined
import GoSem.ClaimMapViews
import Derived.JoinedTies
import Derived.KernelRfl
namespace Go.Proofs.YtcidmapknijdkaaDoor
/- THE CELL 'sum', in the pinned program and in every row, IS THE sha256 OF THE DUMP (.gsa) THAT YtcidmapknijdkaaDoorProg.lean LOADS. Nothing in Lean hashes anything: it is a label: what it is worth is what the hold of that sum in a sandbox is worth. -/
noncomputable def Tryd.pinned : Pinned := { name := "ytcidmapknijdkaadoor", sum := "6cfa53c68c4063c28a9da766b7b1f5efee60d99f3fb9e9a78a2acac9e4ca6b8c", checked := Tryd.checked }
namespace Rows
def none {H : Type} : Left H := { results := [], args := [] }

/- WHAT THE LISTED PACKAGE-LEVEL VARIABLES READ AS WHEN THE CALL BEGINS. Each datum BY PROGRAM (the guide's laid-datum.mjs) off the statement by which the dump's own 'gosem.cut.vars' lays the variable. In a bare row this is a premise. The card (YtcidmapknijdkaaDoorCards.lean) ties it to the program's text. -/
def laid_affiant_sha256_stepNumbers {H : Type} : DataW H := .agg [.lit (.int .u32 1116352408), .lit (.int .u32 1899447441), .lit (.int .u32 3049323471), .lit (.int .u32 3921009573), .lit (.int .u32 961987163), .lit (.int .u32 1508970993), .lit (.int .u32 2453635748), .lit (.int .u32 2870763221), .lit (.int .u32 3624381080), .lit (.int .u32 310598401), .lit (.int .u32 607225278), .lit (.int .u32 1426881987), .lit (.int .u32 1925078388), .lit (.int .u32 2162078206), .lit (.int .u32 2614888103), .lit (.int .u32 3248222580), .lit (.int .u32 3835390401), .lit (.int .u32 4022224774), .lit (.int .u32 264347078), .lit (.int .u32 604807628), .lit (.int .u32 770255983), .lit (.int .u32 1249150122), .lit (.int .u32 1555081692), .lit (.int .u32 1996064986), .lit (.int .u32 2554220882), .lit (.int .u32 2821834349), .lit (.int .u32 2952996808), .lit (.int .u32 3210313671), .lit (.int .u32 3336571891), .lit (.int .u32 3584528711), .lit (.int .u32 113926993), .lit (.int .u32 338241895), .lit (.int .u32 666307205), .lit (.int .u32 773529912), .lit (.int .u32 1294757372), .lit (.int .u32 1396182291), .lit (.int .u32 1695183700), .lit (.int .u32 1986661051), .lit (.int .u32 2177026350), .lit (.int .u32 2456956037), .lit (.int .u32 2730485921), .lit (.int .u32 2820302411), .lit (.int .u32 3259730800), .lit (.int .u32 3345764771), .lit (.int .u32 3516065817), .lit (.int .u32 3600352804), .lit (.int .u32 4094571909), .lit (.int .u32 275423344), .lit (.int .u32 430227734), .lit (.int .u32 506948616), .lit (.int .u32 659060556), .lit (.int .u32 883997877), .lit (.int .u32 958139571), .lit (.int .u32 1322822218), .lit (.int .u32 1537002063), .lit (.int .u32 1747873779), .lit (.int .u32 1955562222), .lit (.int .u32 2024104815), .lit (.int .u32 2227730452), .lit (.int .u32 2361852424), .lit (.int .u32 2428436474), .lit (.int .u32 2756734187), .lit (.int .u32 3204031479), .lit (.int .u32 3329325298)]

/-- 'affiantlaw07.Sha256Sum': WHATEVER THE INPUT: true; the input reads as it did. -/
def sha256SumSpec : ChangeSpec := { name := "sha256Sum", fn := fun _ => fun
  | [d] => { results := [.lit (.bool true)], args := [d] }
  | _ => none }
def sha256SumRow : OpenClaim := { program := "ytcidmapknijdkaadoor", sum := "6cfa53c68c4063c28a9da766b7b1f5efee60d99f3fb9e9a78a2acac9e4ca6b8c", func := "affiant/affiantlaw07.Sha256Sum", spec := "sha256Sum", named := ["affiant/sha256.stepNumbers"], apart := false, laid := [("affiant/sha256.stepNumbers", laid_affiant_sha256_stepNumbers)] }
def Sha256SumSaid : Prop := sha256SumRow.holds Tryd.pinned (OpenSpec.ofChange sha256SumSpec)

/-- ITS FALSE NEIGHBOUR: 'it returns false'. Refute it at one input. -/
def sha256SumWrong : ChangeSpec := { name := "sha256Sum", fn := fun _ => fun
  | [d] => { results := [.lit (.bool false)], args := [d] }
  | _ => none }
def Sha256SumWrongFalsely : Prop := sha256SumRow.holds Tryd.pinned (OpenSpec.ofChange sha256SumWrong)

/-- 'affiantlaw07.Sha256Block': WHATEVER THE INPUT: true; the input reads as it did. -/
def sha256BlockSpec : ChangeSpec := { name := "sha256Block", fn := fun _ => fun
  | [d1, d2, d3] => { results := [.lit (.bool true)], args := [d1, d2, d3] }
  | _ => none }
def sha256BlockRow : OpenClaim := { program := "ytcidmapknijdkaadoor", sum := "6cfa53c68c4063c28a9da766b7b1f5efee60d99f3fb9e9a78a2acac9e4ca6b8c", func := "affiant/affiantlaw07.Sha256Block", spec := "sha256Block", named := ["affiant/sha256.stepNumbers"], apart := false, laid := [("affiant/sha256.stepNumbers", laid_affiant_sha256_stepNumbers)] }
def Sha256BlockSaid : Prop := sha256BlockRow.holds Tryd.pinned (OpenSpec.ofChange sha256BlockSpec)

/-- ITS FALSE NEIGHBOUR: 'it returns false'. Refute it at one input. -/
def sha256BlockWrong : ChangeSpec := { name := "sha256Block", fn := fun _ => fun
  | [d1, d2, d3] => { results := [.lit (.bool false)], args := [d1, d2, d3] }
  | _ => none }
def Sha256BlockWrongFalsely : Prop := sha256BlockRow.holds Tryd.pinned (OpenSpec.ofChange sha256BlockWrong)

/-- 'affiantlaw07.Sha256Blocks': WHATEVER THE INPUT: true; the input reads as it did. -/
def sha256BlocksSpec : ChangeSpec := { name := "sha256Blocks", fn := fun _ => fun
  | [d] => { results := [.lit (.bool true)], args := [d] }
  | _ => none }
def sha256BlocksRow : OpenClaim := { program := "ytcidmapknijdkaadoor", sum := "6cfa53c68c4063c28a9da766b7b1f5efee60d99f3fb9e9a78a2acac9e4ca6b8c", func := "affiant/affiantlaw07.Sha256Blocks", spec := "sha256Blocks", named := ["affiant/sha256.stepNumbers"], apart := false, laid := [("affiant/sha256.stepNumbers", laid_affiant_sha256_stepNumbers)] }
def Sha256BlocksSaid : Prop := sha256BlocksRow.holds Tryd.pinned (OpenSpec.ofChange sha256BlocksSpec)

/-- ITS FALSE NEIGHBOUR: 'it returns false'. Refute it at one input. -/
def sha256BlocksWrong : ChangeSpec := { name := "sha256Blocks", fn := fun _ => fun
  | [d] => { results := [.lit (.bool false)], args := [d] }
  | _ => none }
def Sha256BlocksWrongFalsely : Prop := sha256BlocksRow.holds Tryd.pinned (OpenSpec.ofChange sha256BlocksWrong)

/-- 'affiantlaw07.Sha256Long': WHATEVER THE INPUT: true; the input reads as it did. -/
def sha256LongSpec : ChangeSpec := { name := "sha256Long", fn := fun _ => fun
  | [d1, d2] => { results := [.lit (.bool true)], args := [d1, d2] }
  | _ => none }
def sha256LongRow : OpenClaim := { program := "ytcidmapknijdkaadoor", sum := "6cfa53c68c4063c28a9da766b7b1f5efee60d99f3fb9e9a78a2acac9e4ca6b8c", func := "affiant/affiantlaw07.Sha256Long", spec := "sha256Long", named := ["affiant/sha256.stepNumbers"], apart := false, laid := [("affiant/sha256.stepNumbers", laid_affiant_sha256_stepNumbers)] }
def Sha256LongSaid : Prop := sha256LongRow.holds Tryd.pinned (OpenSpec.ofChange sha256LongSpec)

/-- ITS FALSE NEIGHBOUR: 'it returns false'. Refute it at one input. -/
def sha256LongWrong : ChangeSpec := { name := "sha256Long", fn := fun _ => fun
  | [d1, d2] => { results := [.lit (.bool false)], args := [d1, d2] }
  | _ => none }
def Sha256LongWrongFalsely : Prop := sha256LongRow.holds Tryd.pinned (OpenSpec.ofChange sha256LongWrong)

/-- 'affiantlaw07.Sha256Roots': WHATEVER THE INPUT: true; the input reads as it did. -/
def sha256RootsSpec : ChangeSpec := { name := "sha256Roots", fn := fun _ => fun
  | [] => { results := [.lit (.bool true)], args := [] }
  | _ => none }
def sha256RootsRow : OpenClaim := { program := "ytcidmapknijdkaadoor", sum := "6cfa53c68c4063c28a9da766b7b1f5efee60d99f3fb9e9a78a2acac9e4ca6b8c", func := "affiant/affiantlaw07.Sha256Roots", spec := "sha256Roots", named := ["affiant/sha256.stepNumbers"], apart := false, laid := [("affiant/sha256.stepNumbers", laid_affiant_sha256_stepNumbers)] }
def Sha256RootsSaid : Prop := sha256RootsRow.holds Tryd.pinned (OpenSpec.ofChange sha256RootsSpec)

/-- ITS FALSE NEIGHBOUR: 'it returns false'. Refute it at one input. -/
def sha256RootsWrong : ChangeSpec := { name := "sha256Roots", fn := fun _ => fun
  | [] => { results := [.lit (.bool false)], args := [] }
  | _ => none }
def Sha256RootsWrongFalsely : Prop := sha256RootsRow.holds Tryd.pinned (OpenSpec.ofChange sha256RootsWrong)

/- THE SECOND FORM. 'bulk': how many values and letters a reading holds, each counted each time it is reached (what is shared counts as often as it is met; a slice's spare places count too). A statement '..UptoSaid' is the law's where the arguments, and the package variables that the reading takes, are together of bulk at most 1048576: NARROWER than '..Said'. Prove '..Said' where nothing that the law and all that it calls make is longer than what came in: it says more and counts as full. Else prove '..UptoSaid'. A law counts once. -/
mutual
def uptoBulk {H : Type} : DataW H → Nat
  | .lit (.string bytes) => bytes.length + 1
  | .lit _ => 1
  | .nil => 1
  | .ptr d => uptoBulk d + 1
  | .slice elems spare => uptoBulkAll elems + uptoBulkAll spare + 1
  | .agg parts => uptoBulkAll parts + 1
  | .iface _ d => uptoBulk d + 1
  | .map entries => uptoBulkEntries entries + 1
  | .held _ => 1
def uptoBulkAll {H : Type} : List (DataW H) → Nat
  | [] => 0
  | d :: r => uptoBulk d + uptoBulkAll r
def uptoBulkEntries {H : Type} : List (Lit × DataW H) → Nat
  | [] => 0
  | x :: r => uptoBulkEntry x + uptoBulkEntries r
def uptoBulkEntry {H : Type} : Lit × DataW H → Nat
  | (.string bytes, d) => bytes.length + uptoBulk d + 1
  | (_, d) => uptoBulk d + 1
 end
def uptoSmall : (H : Type) → List (DataW H) → Bool := fun _ ds => decide (uptoBulkAll ds ≤ 1048576)
def OpenSpec.upto (s : _root_.Go.ChangeSpec) : _root_.Go.OpenSpec := { _root_.Go.OpenSpec.ofChange s with cond := some uptoSmall }

/-- 'affiantlaw07.Sha256Sum', WHERE WHAT IT READS IS OF BULK AT MOST 1048576: true; the input reads as it did. -/
def sha256SumUptoRow : OpenClaim := { program := "ytcidmapknijdkaadoor", sum := "6cfa53c68c4063c28a9da766b7b1f5efee60d99f3fb9e9a78a2acac9e4ca6b8c", func := "affiant/affiantlaw07.Sha256Sum", spec := "sha256Sum", named := ["affiant/sha256.stepNumbers"], apart := false, laid := [("affiant/sha256.stepNumbers", laid_affiant_sha256_stepNumbers)], narrowed := true }
def Sha256SumUptoSaid : Prop := sha256SumUptoRow.holds Tryd.pinned (OpenSpec.upto sha256SumSpec)

/-- 'affiantlaw07.Sha256Block', WHERE WHAT IT READS IS OF BULK AT MOST 1048576: true; the input reads as it did. -/
def sha256BlockUptoRow : OpenClaim := { program := "ytcidmapknijdkaadoor", sum := "6cfa53c68c4063c28a9da766b7b1f5efee60d99f3fb9e9a78a2acac9e4ca6b8c", func := "affiant/affiantlaw07.Sha256Block", spec := "sha256Block", named := ["affiant/sha256.stepNumbers"], apart := false, laid := [("affiant/sha256.stepNumbers", laid_affiant_sha256_stepNumbers)], narrowed := true }
def Sha256BlockUptoSaid : Prop := sha256BlockUptoRow.holds Tryd.pinned (OpenSpec.upto sha256BlockSpec)

/-- 'affiantlaw07.Sha256Blocks', WHERE WHAT IT READS IS OF BULK AT MOST 1048576: true; the input reads as it did. -/
def sha256BlocksUptoRow : OpenClaim := { program := "ytcidmapknijdkaadoor", sum := "6cfa53c68c4063c28a9da766b7b1f5efee60d99f3fb9e9a78a2acac9e4ca6b8c", func := "affiant/affiantlaw07.Sha256Blocks", spec := "sha256Blocks", named := ["affiant/sha256.stepNumbers"], apart := false, laid := [("affiant/sha256.stepNumbers", laid_affiant_sha256_stepNumbers)], narrowed := true }
def Sha256BlocksUptoSaid : Prop := sha256BlocksUptoRow.holds Tryd.pinned (OpenSpec.upto sha256BlocksSpec)

/-- 'affiantlaw07.Sha256Long', WHERE WHAT IT READS IS OF BULK AT MOST 1048576: true; the input reads as it did. -/
def sha256LongUptoRow : OpenClaim := { program := "ytcidmapknijdkaadoor", sum := "6cfa53c68c4063c28a9da766b7b1f5efee60d99f3fb9e9a78a2acac9e4ca6b8c", func := "affiant/affiantlaw07.Sha256Long", spec := "sha256Long", named := ["affiant/sha256.stepNumbers"], apart := false, laid := [("affiant/sha256.stepNumbers", laid_affiant_sha256_stepNumbers)], narrowed := true }
def Sha256LongUptoSaid : Prop := sha256LongUptoRow.holds Tryd.pinned (OpenSpec.upto sha256LongSpec)

/-- 'affiantlaw07.Sha256Roots', WHERE WHAT IT READS IS OF BULK AT MOST 1048576: true; the input reads as it did. -/
def sha256RootsUptoRow : OpenClaim := { program := "ytcidmapknijdkaadoor", sum := "6cfa53c68c4063c28a9da766b7b1f5efee60d99f3fb9e9a78a2acac9e4ca6b8c", func := "affiant/affiantlaw07.Sha256Roots", spec := "sha256Roots", named := ["affiant/sha256.stepNumbers"], apart := false, laid := [("affiant/sha256.stepNumbers", laid_affiant_sha256_stepNumbers)], narrowed := true }
def Sha256RootsUptoSaid : Prop := sha256RootsUptoRow.holds Tryd.pinned (OpenSpec.upto sha256RootsSpec)

end Rows
end Go.Proofs.YtcidmapknijdkaaDoor
