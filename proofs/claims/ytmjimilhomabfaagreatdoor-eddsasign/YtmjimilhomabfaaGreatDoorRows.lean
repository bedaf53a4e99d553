/-
  NARROWER THAN 'FOR EVERY INPUT', by the rows' own cells (each row's printed sentence says how): EddsaSign: laid · EddsaVerify: laid · EddsaSigns: laid · EddsaOne: laid.
  DERIVED. THE GIVEN ROWS OF THIS SEAT. 4 by the template 'for every input the law returns true; each argument reads behind the call as it read before'; 0 by the template 'total and deterministic' (their statements: YtmjimilhomabfaaGreatDoorTotals.lean).
  GIVEN WITH THE SEED: the statements are not yours to turn. If you find one false, say at which input.
  Laid BY PROGRAM, IN A SANDBOX (cutbox-rows.mjs): the forced cells as the released guide's own fill.sh prints them over the translation f599e72404df0555… (all of the seat's roots in one cut). By AI agents, Wed Nov 11 2026. No macro, syntax, notation, axiom, sorry.
-/
import Derived.Test.YtmjimilhomabfaaGreatDoorChecked
import GoSem.Claim
import GoSem.ClaimJoined
import GoSem.ClaimMapViews
import Derived.JoinedTies
import Derived.KernelRfl
namespace Go.Proofs.YtmjimilhomabfaaGreatDoor
/- THE CELL 'sum', in the pinned program and in every row, IS THE sha256 OF THE DUMP (.gsa) THAT YtmjimilhomabfaaGreatDoorProg.lean LOADS. Nothing in Lean hashes anything: it is a label: what it is worth is what the hold of that sum in a sandbox is worth. -/
noncomputable def Tryz.pinned : Pinned := { name := "ytmjimilhomabfaagreatdoor", sum := "f599e72404df05556c6f8ca8f2d9d47fb2fe19d7ee7ccac1a06751f6ce932ee7", checked := Tryz.checked }
namespace Rows
def none {H : Type} : Left H := { results := [], args := [] }

/- WHAT THE LISTED PACKAGE-LEVEL VARIABLES READ AS WHEN THE CALL BEGINS. Each datum BY PROGRAM (the guide's laid-datum.mjs) off the statement by which the dump's own 'gosem.cut.vars' lays the variable. In a bare row this is a premise. The card (YtmjimilhomabfaaGreatDoorCards.lean) ties it to the program's text. -/
def laid_affiant_field_prime {H : Type} : DataW H := .agg [.lit (.int .u64 18446744073709551597), .lit (.int .u64 18446744073709551615), .lit (.int .u64 18446744073709551615), .lit (.int .u64 9223372036854775807)]
def laid_affiant_field_toInverse {H : Type} : DataW H := .agg [.lit (.int .u64 18446744073709551595), .lit (.int .u64 18446744073709551615), .lit (.int .u64 18446744073709551615), .lit (.int .u64 9223372036854775807)]
def laid_affiant_field_toRoot {H : Type} : DataW H := .agg [.lit (.int .u64 18446744073709551614), .lit (.int .u64 18446744073709551615), .lit (.int .u64 18446744073709551615), .lit (.int .u64 1152921504606846975)]
def laid_affiant_field_rootOfMinusOne {H : Type} : DataW H := .agg [.lit (.int .u64 14190309331451158704), .lit (.int .u64 3405592160176694392), .lit (.int .u64 3120150775007532967), .lit (.int .u64 3135389899092516619)]
def laid_affiant_edwards_d {H : Type} : DataW H := .agg [.lit (.int .u64 8496970652267935907), .lit (.int .u64 31536524315187371), .lit (.int .u64 10144147576115030168), .lit (.int .u64 5909686906226998899)]
def laid_affiant_edwards_base {H : Type} : DataW H := .agg [.agg [.lit (.int .u64 14507833142362363162), .lit (.int .u64 7578651490590762930), .lit (.int .u64 13881468655802702940), .lit (.int .u64 2407515759118799870)], .agg [.lit (.int .u64 7378697629483820632), .lit (.int .u64 7378697629483820646), .lit (.int .u64 7378697629483820646), .lit (.int .u64 7378697629483820646)]]
def laid_affiant_sha256_stepNumbers {H : Type} : DataW H := .agg [.lit (.int .u32 1116352408), .lit (.int .u32 1899447441), .lit (.int .u32 3049323471), .lit (.int .u32 3921009573), .lit (.int .u32 961987163), .lit (.int .u32 1508970993), .lit (.int .u32 2453635748), .lit (.int .u32 2870763221), .lit (.int .u32 3624381080), .lit (.int .u32 310598401), .lit (.int .u32 607225278), .lit (.int .u32 1426881987), .lit (.int .u32 1925078388), .lit (.int .u32 2162078206), .lit (.int .u32 2614888103), .lit (.int .u32 3248222580), .lit (.int .u32 3835390401), .lit (.int .u32 4022224774), .lit (.int .u32 264347078), .lit (.int .u32 604807628), .lit (.int .u32 770255983), .lit (.int .u32 1249150122), .lit (.int .u32 1555081692), .lit (.int .u32 1996064986), .lit (.int .u32 2554220882), .lit (.int .u32 2821834349), .lit (.int .u32 2952996808), .lit (.int .u32 3210313671), .lit (.int .u32 3336571891), .lit (.int .u32 3584528711), .lit (.int .u32 113926993), .lit (.int .u32 338241895), .lit (.int .u32 666307205), .lit (.int .u32 773529912), .lit (.int .u32 1294757372), .lit (.int .u32 1396182291), .lit (.int .u32 1695183700), .lit (.int .u32 1986661051), .lit (.int .u32 2177026350), .lit (.int .u32 2456956037), .lit (.int .u32 2730485921), .lit (.int .u32 2820302411), .lit (.int .u32 3259730800), .lit (.int .u32 3345764771), .lit (.int .u32 3516065817), .lit (.int .u32 3600352804), .lit (.int .u32 4094571909), .lit (.int .u32 275423344), .lit (.int .u32 430227734), .lit (.int .u32 506948616), .lit (.int .u32 659060556), .lit (.int .u32 883997877), .lit (.int .u32 958139571), .lit (.int .u32 1322822218), .lit (.int .u32 1537002063), .lit (.int .u32 1747873779), .lit (.int .u32 1955562222), .lit (.int .u32 2024104815), .lit (.int .u32 2227730452), .lit (.int .u32 2361852424), .lit (.int .u32 2428436474), .lit (.int .u32 2756734187), .lit (.int .u32 3204031479), .lit (.int .u32 3329325298)]
def laid_affiant_sha512_stepNumbers {H : Type} : DataW H := .agg [.lit (.int .u64 4794697086780616226), .lit (.int .u64 8158064640168781261), .lit (.int .u64 13096744586834688815), .lit (.int .u64 16840607885511220156), .lit (.int .u64 4131703408338449720), .lit (.int .u64 6480981068601479193), .lit (.int .u64 10538285296894168987), .lit (.int .u64 12329834152419229976), .lit (.int .u64 15566598209576043074), .lit (.int .u64 1334009975649890238), .lit (.int .u64 2608012711638119052), .lit (.int .u64 6128411473006802146), .lit (.int .u64 8268148722764581231), .lit (.int .u64 9286055187155687089), .lit (.int .u64 11230858885718282805), .lit (.int .u64 13951009754708518548), .lit (.int .u64 16472876342353939154), .lit (.int .u64 17275323862435702243), .lit (.int .u64 1135362057144423861), .lit (.int .u64 2597628984639134821), .lit (.int .u64 3308224258029322869), .lit (.int .u64 5365058923640841347), .lit (.int .u64 6679025012923562964), .lit (.int .u64 8573033837759648693), .lit (.int .u64 10970295158949994411), .lit (.int .u64 12119686244451234320), .lit (.int .u64 12683024718118986047), .lit (.int .u64 13788192230050041572), .lit (.int .u64 14330467153632333762), .lit (.int .u64 15395433587784984357), .lit (.int .u64 489312712824947311), .lit (.int .u64 1452737877330783856), .lit (.int .u64 2861767655752347644), .lit (.int .u64 3322285676063803686), .lit (.int .u64 5560940570517711597), .lit (.int .u64 5996557281743188959), .lit (.int .u64 7280758554555802590), .lit (.int .u64 8532644243296465576), .lit (.int .u64 9350256976987008742), .lit (.int .u64 10552545826968843579), .lit (.int .u64 11727347734174303076), .lit (.int .u64 12113106623233404929), .lit (.int .u64 14000437183269869457), .lit (.int .u64 14369950271660146224), .lit (.int .u64 15101387698204529176), .lit (.int .u64 15463397548674623760), .lit (.int .u64 17586052441742319658), .lit (.int .u64 1182934255886127544), .lit (.int .u64 1847814050463011016), .lit (.int .u64 2177327727835720531), .lit (.int .u64 2830643537854262169), .lit (.int .u64 3796741975233480872), .lit (.int .u64 4115178125766777443), .lit (.int .u64 5681478168544905931), .lit (.int .u64 6601373596472566643), .lit (.int .u64 7507060721942968483), .lit (.int .u64 8399075790359081724), .lit (.int .u64 8693463985226723168), .lit (.int .u64 9568029438360202098), .lit (.int .u64 10144078919501101548), .lit (.int .u64 10430055236837252648), .lit (.int .u64 11840083180663258601), .lit (.int .u64 13761210420658862357), .lit (.int .u64 14299343276471374635), .lit (.int .u64 14566680578165727644), .lit (.int .u64 15097957966210449927), .lit (.int .u64 16922976911328602910), .lit (.int .u64 17689382322260857208), .lit (.int .u64 500013540394364858), .lit (.int .u64 748580250866718886), .lit (.int .u64 1242879168328830382), .lit (.int .u64 1977374033974150939), .lit (.int .u64 2944078676154940804), .lit (.int .u64 3659926193048069267), .lit (.int .u64 4368137639120453308), .lit (.int .u64 4836135668995329356), .lit (.int .u64 5532061633213252278), .lit (.int .u64 6448918945643986474), .lit (.int .u64 6902733635092675308), .lit (.int .u64 7801388544844847127)]
def laid_affiant_scalar_order {H : Type} : DataW H := .agg [.lit (.int .u64 6346243789798364141), .lit (.int .u64 1503914060200516822), .lit (.int .u64 0), .lit (.int .u64 1152921504606846976)]

/-- 'affiantlaw14.EddsaSign': WHATEVER THE INPUT: true; the input reads as it did. -/
def eddsaSignSpec : ChangeSpec := { name := "eddsaSign", fn := fun _ => fun
  | [d1, d2] => { results := [.lit (.bool true)], args := [d1, d2] }
  | _ => none }
def eddsaSignRow : OpenClaim := { program := "ytmjimilhomabfaagreatdoor", sum := "f599e72404df05556c6f8ca8f2d9d47fb2fe19d7ee7ccac1a06751f6ce932ee7", func := "affiant/affiantlaw14.EddsaSign", spec := "eddsaSign", inPlace := ["math/bits.Sub64", "math/bits.Add64"], unfollowed := true, recurses := true, named := ["affiant/sha256.stepNumbers", "affiant/sha512.stepNumbers", "affiant/edwards.base", "affiant/edwards.d", "affiant/field.prime", "affiant/field.toInverse", "affiant/scalar.order", "affiant/field.toRoot", "affiant/field.rootOfMinusOne"], apart := false, laid := [("affiant/field.prime", laid_affiant_field_prime), ("affiant/field.toInverse", laid_affiant_field_toInverse), ("affiant/field.toRoot", laid_affiant_field_toRoot), ("affiant/field.rootOfMinusOne", laid_affiant_field_rootOfMinusOne), ("affiant/edwards.d", laid_affiant_edwards_d), ("affiant/edwards.base", laid_affiant_edwards_base), ("affiant/sha256.stepNumbers", laid_affiant_sha256_stepNumbers), ("affiant/sha512.stepNumbers", laid_affiant_sha512_stepNumbers), ("affiant/scalar.order", laid_affiant_scalar_order)] }
def EddsaSignSaid : Prop := eddsaSignRow.holds Tryz.pinned (OpenSpec.ofChange eddsaSignSpec)

/-- ITS FALSE NEIGHBOUR: 'it returns false'. Refute it at one input. -/
def eddsaSignWrong : ChangeSpec := { name := "eddsaSign", fn := fun _ => fun
  | [d1, d2] => { results := [.lit (.bool false)], args := [d1, d2] }
  | _ => none }
def EddsaSignWrongFalsely : Prop := eddsaSignRow.holds Tryz.pinned (OpenSpec.ofChange eddsaSignWrong)

/-- 'affiantlaw14.EddsaVerify': WHATEVER THE INPUT: true; the input reads as it did. -/
def eddsaVerifySpec : ChangeSpec := { name := "eddsaVerify", fn := fun _ => fun
  | [d1, d2, d3] => { results := [.lit (.bool true)], args := [d1, d2, d3] }
  | _ => none }
def eddsaVerifyRow : OpenClaim := { program := "ytmjimilhomabfaagreatdoor", sum := "f599e72404df05556c6f8ca8f2d9d47fb2fe19d7ee7ccac1a06751f6ce932ee7", func := "affiant/affiantlaw14.EddsaVerify", spec := "eddsaVerify", inPlace := ["math/bits.Sub64", "math/bits.Add64"], unfollowed := true, recurses := true, named := ["affiant/sha256.stepNumbers", "affiant/sha512.stepNumbers", "affiant/edwards.base", "affiant/edwards.d", "affiant/field.prime", "affiant/field.toInverse", "affiant/scalar.order", "affiant/field.toRoot", "affiant/field.rootOfMinusOne"], apart := false, laid := [("affiant/field.prime", laid_affiant_field_prime), ("affiant/field.toInverse", laid_affiant_field_toInverse), ("affiant/field.toRoot", laid_affiant_field_toRoot), ("affiant/field.rootOfMinusOne", laid_affiant_field_rootOfMinusOne), ("affiant/edwards.d", laid_affiant_edwards_d), ("affiant/edwards.base", laid_affiant_edwards_base), ("affiant/sha256.stepNumbers", laid_affiant_sha256_stepNumbers), ("affiant/sha512.stepNumbers", laid_affiant_sha512_stepNumbers), ("affiant/scalar.order", laid_affiant_scalar_order)] }
def EddsaVerifySaid : Prop := eddsaVerifyRow.holds Tryz.pinned (OpenSpec.ofChange eddsaVerifySpec)

/-- ITS FALSE NEIGHBOUR: 'it returns false'. Refute it at one input. -/
def eddsaVerifyWrong : ChangeSpec := { name := "eddsaVerify", fn := fun _ => fun
  | [d1, d2, d3] => { results := [.lit (.bool false)], args := [d1, d2, d3] }
  | _ => none }
def EddsaVerifyWrongFalsely : Prop := eddsaVerifyRow.holds Tryz.pinned (OpenSpec.ofChange eddsaVerifyWrong)

/-- 'affiantlaw14.EddsaSigns': WHATEVER THE INPUT: true; the input reads as it did. -/
def eddsaSignsSpec : ChangeSpec := { name := "eddsaSigns", fn := fun _ => fun
  | [d1, d2] => { results := [.lit (.bool true)], args := [d1, d2] }
  | _ => none }
def eddsaSignsRow : OpenClaim := { program := "ytmjimilhomabfaagreatdoor", sum := "f599e72404df05556c6f8ca8f2d9d47fb2fe19d7ee7ccac1a06751f6ce932ee7", func := "affiant/affiantlaw14.EddsaSigns", spec := "eddsaSigns", inPlace := ["math/bits.Sub64", "math/bits.Add64"], unfollowed := true, recurses := true, named := ["affiant/sha256.stepNumbers", "affiant/sha512.stepNumbers", "affiant/edwards.base", "affiant/edwards.d", "affiant/field.prime", "affiant/field.toInverse", "affiant/scalar.order", "affiant/field.toRoot", "affiant/field.rootOfMinusOne"], apart := false, laid := [("affiant/field.prime", laid_affiant_field_prime), ("affiant/field.toInverse", laid_affiant_field_toInverse), ("affiant/field.toRoot", laid_affiant_field_toRoot), ("affiant/field.rootOfMinusOne", laid_affiant_field_rootOfMinusOne), ("affiant/edwards.d", laid_affiant_edwards_d), ("affiant/edwards.base", laid_affiant_edwards_base), ("affiant/sha256.stepNumbers", laid_affiant_sha256_stepNumbers), ("affiant/sha512.stepNumbers", laid_affiant_sha512_stepNumbers), ("affiant/scalar.order", laid_affiant_scalar_order)] }
def EddsaSignsSaid : Prop := eddsaSignsRow.holds Tryz.pinned (OpenSpec.ofChange eddsaSignsSpec)

/-- ITS FALSE NEIGHBOUR: 'it returns false'. Refute it at one input. -/
def eddsaSignsWrong : ChangeSpec := { name := "eddsaSigns", fn := fun _ => fun
  | [d1, d2] => { results := [.lit (.bool false)], args := [d1, d2] }
  | _ => none }
def EddsaSignsWrongFalsely : Prop := eddsaSignsRow.holds Tryz.pinned (OpenSpec.ofChange eddsaSignsWrong)

/-- 'affiantlaw14.EddsaOne': WHATEVER THE INPUT: true; the input reads as it did. -/
def eddsaOneSpec : ChangeSpec := { name := "eddsaOne", fn := fun _ => fun
  | [d1, d2, d3] => { results := [.lit (.bool true)], args := [d1, d2, d3] }
  | _ => none }
def eddsaOneRow : OpenClaim := { program := "ytmjimilhomabfaagreatdoor", sum := "f599e72404df05556c6f8ca8f2d9d47fb2fe19d7ee7ccac1a06751f6ce932ee7", func := "affiant/affiantlaw14.EddsaOne", spec := "eddsaOne", inPlace := ["math/bits.Sub64", "math/bits.Add64"], unfollowed := true, recurses := true, named := ["affiant/sha256.stepNumbers", "affiant/sha512.stepNumbers", "affiant/edwards.base", "affiant/edwards.d", "affiant/field.prime", "affiant/field.toInverse", "affiant/scalar.order", "affiant/field.toRoot", "affiant/field.rootOfMinusOne"], apart := false, laid := [("affiant/field.prime", laid_affiant_field_prime), ("affiant/field.toInverse", laid_affiant_field_toInverse), ("affiant/field.toRoot", laid_affiant_field_toRoot), ("affiant/field.rootOfMinusOne", laid_affiant_field_rootOfMinusOne), ("affiant/edwards.d", laid_affiant_edwards_d), ("affiant/edwards.base", laid_affiant_edwards_base), ("affiant/sha256.stepNumbers", laid_affiant_sha256_stepNumbers), ("affiant/sha512.stepNumbers", laid_affiant_sha512_stepNumbers), ("affiant/scalar.order", laid_affiant_scalar_order)] }
def EddsaOneSaid : Prop := eddsaOneRow.holds Tryz.pinned (OpenSpec.ofChange eddsaOneSpec)

/-- ITS FALSE NEIGHBOUR: 'it returns false'. Refute it at one input. -/
def eddsaOneWrong : ChangeSpec := { name := "eddsaOne", fn := fun _ => fun
  | [d1, d2, d3] => { results := [.lit (.bool false)], args := [d1, d2, d3] }
  | _ => none }
def EddsaOneWrongFalsely : Prop := eddsaOneRow.holds Tryz.pinned (OpenSpec.ofChange eddsaOneWrong)

/- THE SECOND FORM. 'bulk': how many values and letters a reading holds, each counted each time it is reached (what is shared counts as often as it is met; a slice's spare places count too). A statement '..UptoSaid' is the law's where the arguments, and the package variables that the reading takes, are together of bulk at most 1048576: NARROWER than '..Said'. Prove '..Said' where nothing that the law and all that it calls make is longer than what came in: it says more and counts as full. Else prove '..UptoSaid'. A law counts once. -/
mutual
def uptoBulk {H : Type} : DataW H → Nat
  | .lit (.string bytes) => bytes.length + 1
  | .lit _ => 1
  | .nil => 1
  | .ptr d => uptoBulk d + 1
  | .slice elems spare => uptoBulkAll elems + uptoBulkAll spare + 1
  | .agg parts => uptoBulkAll parts + 1
  | .iface _ d => uptoBulk d + 1
  | .map entries => uptoBulkEntries entries + 1
  | .held _ => 1
def uptoBulkAll {H : Type} : List (DataW H) → Nat
  | [] => 0
  | d :: r => uptoBulk d + uptoBulkAll r
def uptoBulkEntries {H : Type} : List (Lit × DataW H) → Nat
  | [] => 0
  | x :: r => uptoBulkEntry x + uptoBulkEntries r
def uptoBulkEntry {H : Type} : Lit × DataW H → Nat
  | (.string bytes, d) => bytes.length + uptoBulk d + 1
  | (_, d) => uptoBulk d + 1
 end
def uptoSmall : (H : Type) → List (DataW H) → Bool := fun _ ds => decide (uptoBulkAll ds ≤ 1048576)
def OpenSpec.upto (s : _root_.Go.ChangeSpec) : _root_.Go.OpenSpec := { _root_.Go.OpenSpec.ofChange s with cond := some uptoSmall }

/-- 'affiantlaw14.EddsaSign', WHERE WHAT IT READS IS OF BULK AT MOST 1048576: true; the input reads as it did. -/
def eddsaSignUptoRow : OpenClaim := { program := "ytmjimilhomabfaagreatdoor", sum := "f599e72404df05556c6f8ca8f2d9d47fb2fe19d7ee7ccac1a06751f6ce932ee7", func := "affiant/affiantlaw14.EddsaSign", spec := "eddsaSign", inPlace := ["math/bits.Sub64", "math/bits.Add64"], unfollowed := true, recurses := true, named := ["affiant/sha256.stepNumbers", "affiant/sha512.stepNumbers", "affiant/edwards.base", "affiant/edwards.d", "affiant/field.prime", "affiant/field.toInverse", "affiant/scalar.order", "affiant/field.toRoot", "affiant/field.rootOfMinusOne"], apart := false, laid := [("affiant/field.prime", laid_affiant_field_prime), ("affiant/field.toInverse", laid_affiant_field_toInverse), ("affiant/field.toRoot", laid_affiant_field_toRoot), ("affiant/field.rootOfMinusOne", laid_affiant_field_rootOfMinusOne), ("affiant/edwards.d", laid_affiant_edwards_d), ("affiant/edwards.base", laid_affiant_edwards_base), ("affiant/sha256.stepNumbers", laid_affiant_sha256_stepNumbers), ("affiant/sha512.stepNumbers", laid_affiant_sha512_stepNumbers), ("affiant/scalar.order", laid_affiant_scalar_order)], narrowed := true }
def EddsaSignUptoSaid : Prop := eddsaSignUptoRow.holds Tryz.pinned (OpenSpec.upto eddsaSignSpec)

/-- 'affiantlaw14.EddsaVerify', WHERE WHAT IT READS IS OF BULK AT MOST 1048576: true; the input reads as it did. -/
def eddsaVerifyUptoRow : OpenClaim := { program := "ytmjimilhomabfaagreatdoor", sum := "f599e72404df05556c6f8ca8f2d9d47fb2fe19d7ee7ccac1a06751f6ce932ee7", func := "affiant/affiantlaw14.EddsaVerify", spec := "eddsaVerify", inPlace := ["math/bits.Sub64", "math/bits.Add64"], unfollowed := true, recurses := true, named := ["affiant/sha256.stepNumbers", "affiant/sha512.stepNumbers", "affiant/edwards.base", "affiant/edwards.d", "affiant/field.prime", "affiant/field.toInverse", "affiant/scalar.order", "affiant/field.toRoot", "affiant/field.rootOfMinusOne"], apart := false, laid := [("affiant/field.prime", laid_affiant_field_prime), ("affiant/field.toInverse", laid_affiant_field_toInverse), ("affiant/field.toRoot", laid_affiant_field_toRoot), ("affiant/field.rootOfMinusOne", laid_affiant_field_rootOfMinusOne), ("affiant/edwards.d", laid_affiant_edwards_d), ("affiant/edwards.base", laid_affiant_edwards_base), ("affiant/sha256.stepNumbers", laid_affiant_sha256_stepNumbers), ("affiant/sha512.stepNumbers", laid_affiant_sha512_stepNumbers), ("affiant/scalar.order", laid_affiant_scalar_order)], narrowed := true }
def EddsaVerifyUptoSaid : Prop := eddsaVerifyUptoRow.holds Tryz.pinned (OpenSpec.upto eddsaVerifySpec)

/-- 'affiantlaw14.EddsaSigns', WHERE WHAT IT READS IS OF BULK AT MOST 1048576: true; the input reads as it did. -/
def eddsaSignsUptoRow : OpenClaim := { program := "ytmjimilhomabfaagreatdoor", sum := "f599e72404df05556c6f8ca8f2d9d47fb2fe19d7ee7ccac1a06751f6ce932ee7", func := "affiant/affiantlaw14.EddsaSigns", spec := "eddsaSigns", inPlace := ["math/bits.Sub64", "math/bits.Add64"], unfollowed := true, recurses := true, named := ["affiant/sha256.stepNumbers", "affiant/sha512.stepNumbers", "affiant/edwards.base", "affiant/edwards.d", "affiant/field.prime", "affiant/field.toInverse", "affiant/scalar.order", "affiant/field.toRoot", "affiant/field.rootOfMinusOne"], apart := false, laid := [("affiant/field.prime", laid_affiant_field_prime), ("affiant/field.toInverse", laid_affiant_field_toInverse), ("affiant/field.toRoot", laid_affiant_field_toRoot), ("affiant/field.rootOfMinusOne", laid_affiant_field_rootOfMinusOne), ("affiant/edwards.d", laid_affiant_edwards_d), ("affiant/edwards.base", laid_affiant_edwards_base), ("affiant/sha256.stepNumbers", laid_affiant_sha256_stepNumbers), ("affiant/sha512.stepNumbers", laid_affiant_sha512_stepNumbers), ("affiant/scalar.order", laid_affiant_scalar_order)], narrowed := true }
def EddsaSignsUptoSaid : Prop := eddsaSignsUptoRow.holds Tryz.pinned (OpenSpec.upto eddsaSignsSpec)

/-- 'affiantlaw14.EddsaOne', WHERE WHAT IT READS IS OF BULK AT MOST 1048576: true; the input reads as it did. -/
def eddsaOneUptoRow : OpenClaim := { program := "ytmjimilhomabfaagreatdoor", sum := "f599e72404df05556c6f8ca8f2d9d47fb2fe19d7ee7ccac1a06751f6ce932ee7", func := "affiant/affiantlaw14.EddsaOne", spec := "eddsaOne", inPlace := ["math/bits.Sub64", "math/bits.Add64"], unfollowed := true, recurses := true, named := ["affiant/sha256.stepNumbers", "affiant/sha512.stepNumbers", "affiant/edwards.base", "affiant/edwards.d", "affiant/field.prime", "affiant/field.toInverse", "affiant/scalar.order", "affiant/field.toRoot", "affiant/field.rootOfMinusOne"], apart := false, laid := [("affiant/field.prime", laid_affiant_field_prime), ("affiant/field.toInverse", laid_affiant_field_toInverse), ("affiant/field.toRoot", laid_affiant_field_toRoot), ("affiant/field.rootOfMinusOne", laid_affiant_field_rootOfMinusOne), ("affiant/edwards.d", laid_affiant_edwards_d), ("affiant/edwards.base", laid_affiant_edwards_base), ("affiant/sha256.stepNumbers", laid_affiant_sha256_stepNumbers), ("affiant/sha512.stepNumbers", laid_affiant_sha512_stepNumbers), ("affiant/scalar.order", laid_affiant_scalar_order)], narrowed := true }
def EddsaOneUptoSaid : Prop := eddsaOneUptoRow.holds Tryz.pinned (OpenSpec.upto eddsaOneSpec)

end Rows
end Go.Proofs.YtmjimilhomabfaaGreatDoor
