import PyProof.Rows.All
import Wide.All
import OpenK.AllK
import Wide.FinOn
import HandS.ForMost
import HandS.ForExc
import HandS.Evl
import HandS.OwnEq
import HandS.IsInst
import HandS.FStr
import HandS.Gcd
import HandS.TryOnly
import HandS.Defaults
import HandS.CallSlots
import HandS.Wide
import HandS.Flow
import HandS.Style
import HandS.HeadHook4
import HandS.Head2
import KE.KFmtOwn
import PyProof.Rows.Range3
import HandS.Head3
import HandS.HeadEnd
import HandS.Comp
import HandS.Walk
import HandS.Text
import KE.KOpsOwn
import PySem.Challenge.RW_similarforms_k11_texts_of_polynomials
set_option Elab.async false
set_option linter.all false
set_option maxRecDepth 100000
set_option maxHeartbeats 0
namespace K11
open PySem L2
def topS (i : Nat) : Stmt := PySem.Challenge.pw_similarforms_k11_texts_of_polynomials.main.body.getD i (.Pass ⟨0, 0, 0, 0⟩)
abbrev s__wall : Stmt := topS 1
abbrev s_Refusedu_initu : Stmt := inClass (topS 6) 0
abbrev s_NoTextu_initu : Stmt := inClass (topS 7) 0
abbrev s_digits_of : Stmt := topS 11
abbrev s_natural_with : Stmt := topS 12
abbrev s_integer_with : Stmt := topS 13
abbrev s_powered : Stmt := topS 15
abbrev s_is_integer : Stmt := topS 17
abbrev s_Ratiou_initu : Stmt := inClass (topS 18) 0
abbrev s_Ratiou_addu : Stmt := inClass (topS 18) 1
abbrev s_Ratiou_subu : Stmt := inClass (topS 18) 2
abbrev s_Ratiou_mulu : Stmt := inClass (topS 18) 3
abbrev s_Ratiou_negu : Stmt := inClass (topS 18) 4
abbrev s_Ratiou_equ : Stmt := inClass (topS 18) 5
abbrev s_Ratiou_stru : Stmt := inClass (topS 18) 6
abbrev s_Ratio_is_zero : Stmt := inClass (topS 18) 7
abbrev s_Ratio_inverse : Stmt := inClass (topS 18) 8
abbrev s_Ratio_over : Stmt := inClass (topS 18) 9
abbrev s_Ratio_power : Stmt := inClass (topS 18) 10
abbrev s__require_ratio : Stmt := topS 19
abbrev s_is_small_prime : Stmt := topS 22
abbrev s_Residueu_initu : Stmt := inClass (topS 23) 0
abbrev s_Residueu_addu : Stmt := inClass (topS 23) 1
abbrev s_Residueu_subu : Stmt := inClass (topS 23) 2
abbrev s_Residueu_mulu : Stmt := inClass (topS 23) 3
abbrev s_Residueu_negu : Stmt := inClass (topS 23) 4
abbrev s_Residueu_equ : Stmt := inClass (topS 23) 5
abbrev s_Residueu_stru : Stmt := inClass (topS 23) 6
abbrev s_Residue_is_zero : Stmt := inClass (topS 23) 7
abbrev s_Residue_inverse : Stmt := inClass (topS 23) 8
abbrev s_Residue_over : Stmt := inClass (topS 23) 9
abbrev s_Residue_power : Stmt := inClass (topS 23) 10
abbrev s__require_like : Stmt := topS 24
abbrev s_Groundu_initu : Stmt := inClass (topS 26) 0
abbrev s_Groundu_equ : Stmt := inClass (topS 26) 1
abbrev s_Ground_number : Stmt := inClass (topS 26) 2
abbrev s_Ground_zero : Stmt := inClass (topS 26) 3
abbrev s_Ground_one : Stmt := inClass (topS 26) 4
abbrev s_Ground_is_member : Stmt := inClass (topS 26) 5
abbrev s_Ground_members : Stmt := inClass (topS 26) 6
abbrev s_Ground_read : Stmt := inClass (topS 26) 7
abbrev s_taken : Stmt := topS 27
abbrev s__ratio_with : Stmt := topS 28
abbrev s__member_with : Stmt := topS 29
abbrev s_Polyu_initu : Stmt := inClass (topS 31) 0
abbrev s_Polyu_addu : Stmt := inClass (topS 31) 1
abbrev s_Polyu_subu : Stmt := inClass (topS 31) 2
abbrev s_Polyu_mulu : Stmt := inClass (topS 31) 3
abbrev s_Polyu_negu : Stmt := inClass (topS 31) 4
abbrev s_Polyu_floordivu : Stmt := inClass (topS 31) 5
abbrev s_Polyu_modu : Stmt := inClass (topS 31) 6
abbrev s_Polyu_equ : Stmt := inClass (topS 31) 7
abbrev s_Polyu_callu : Stmt := inClass (topS 31) 8
abbrev s_Polyu_stru : Stmt := inClass (topS 31) 9
abbrev s_Poly_degree : Stmt := inClass (topS 31) 10
abbrev s_Poly_is_zero : Stmt := inClass (topS 31) 11
abbrev s_Poly_coefficient : Stmt := inClass (topS 31) 12
abbrev s_Poly_scaled : Stmt := inClass (topS 31) 13
abbrev s_Poly_monic : Stmt := inClass (topS 31) 14
abbrev s_Poly_derivative : Stmt := inClass (topS 31) 15
abbrev s_Poly_power : Stmt := inClass (topS 31) 16
abbrev s_require_like : Stmt := topS 32
abbrev s__divided : Stmt := topS 33
abbrev s__term : Stmt := topS 34
abbrev s__law_numbers : Stmt := topS 36
abbrev s__law_next : Stmt := topS 37
abbrev s__law_prime : Stmt := topS 38
abbrev s__law_ground : Stmt := topS 39
abbrev s__law_rest : Stmt := topS 40
abbrev s__law_trim : Stmt := topS 41
abbrev s__law_row : Stmt := topS 42
abbrev s_law : Stmt := topS 43
def d__wall : He.DefD := ⟨("_wall", none), "_wall", "_wall", defArgs s__wall, defBody s__wall, defScope s__wall, [], []⟩
def d_Refusedu_initu : He.DefD := ⟨("Refused", some "__init__"), "__init__", "Refused.__init__", defArgs s_Refusedu_initu, defBody s_Refusedu_initu, defScope s_Refusedu_initu, [], []⟩
def d_NoTextu_initu : He.DefD := ⟨("NoText", some "__init__"), "__init__", "NoText.__init__", defArgs s_NoTextu_initu, defBody s_NoTextu_initu, defScope s_NoTextu_initu, [], []⟩
def d_digits_of : He.DefD := ⟨("digits_of", none), "digits_of", "digits_of", defArgs s_digits_of, defBody s_digits_of, defScope s_digits_of, [], []⟩
def d_natural_with : He.DefD := ⟨("natural_with", none), "natural_with", "natural_with", defArgs s_natural_with, defBody s_natural_with, defScope s_natural_with, [], []⟩
def d_integer_with : He.DefD := ⟨("integer_with", none), "integer_with", "integer_with", defArgs s_integer_with, defBody s_integer_with, defScope s_integer_with, [], []⟩
def d_powered : He.DefD := ⟨("powered", none), "powered", "powered", defArgs s_powered, defBody s_powered, defScope s_powered, [], []⟩
def d_is_integer : He.DefD := ⟨("is_integer", none), "is_integer", "is_integer", defArgs s_is_integer, defBody s_is_integer, defScope s_is_integer, [], []⟩
def d_Ratiou_initu : He.DefD := ⟨("Ratio", some "__init__"), "__init__", "Ratio.__init__", defArgs s_Ratiou_initu, defBody s_Ratiou_initu, defScope s_Ratiou_initu, [.int 1], []⟩
def d_Ratiou_addu : He.DefD := ⟨("Ratio", some "__add__"), "__add__", "Ratio.__add__", defArgs s_Ratiou_addu, defBody s_Ratiou_addu, defScope s_Ratiou_addu, [], []⟩
def d_Ratiou_subu : He.DefD := ⟨("Ratio", some "__sub__"), "__sub__", "Ratio.__sub__", defArgs s_Ratiou_subu, defBody s_Ratiou_subu, defScope s_Ratiou_subu, [], []⟩
def d_Ratiou_mulu : He.DefD := ⟨("Ratio", some "__mul__"), "__mul__", "Ratio.__mul__", defArgs s_Ratiou_mulu, defBody s_Ratiou_mulu, defScope s_Ratiou_mulu, [], []⟩
def d_Ratiou_negu : He.DefD := ⟨("Ratio", some "__neg__"), "__neg__", "Ratio.__neg__", defArgs s_Ratiou_negu, defBody s_Ratiou_negu, defScope s_Ratiou_negu, [], []⟩
def d_Ratiou_equ : He.DefD := ⟨("Ratio", some "__eq__"), "__eq__", "Ratio.__eq__", defArgs s_Ratiou_equ, defBody s_Ratiou_equ, defScope s_Ratiou_equ, [], []⟩
def d_Ratiou_stru : He.DefD := ⟨("Ratio", some "__str__"), "__str__", "Ratio.__str__", defArgs s_Ratiou_stru, defBody s_Ratiou_stru, defScope s_Ratiou_stru, [], []⟩
def d_Ratio_is_zero : He.DefD := ⟨("Ratio", some "is_zero"), "is_zero", "Ratio.is_zero", defArgs s_Ratio_is_zero, defBody s_Ratio_is_zero, defScope s_Ratio_is_zero, [], []⟩
def d_Ratio_inverse : He.DefD := ⟨("Ratio", some "inverse"), "inverse", "Ratio.inverse", defArgs s_Ratio_inverse, defBody s_Ratio_inverse, defScope s_Ratio_inverse, [], []⟩
def d_Ratio_over : He.DefD := ⟨("Ratio", some "over"), "over", "Ratio.over", defArgs s_Ratio_over, defBody s_Ratio_over, defScope s_Ratio_over, [], []⟩
def d_Ratio_power : He.DefD := ⟨("Ratio", some "power"), "power", "Ratio.power", defArgs s_Ratio_power, defBody s_Ratio_power, defScope s_Ratio_power, [], []⟩
def d__require_ratio : He.DefD := ⟨("_require_ratio", none), "_require_ratio", "_require_ratio", defArgs s__require_ratio, defBody s__require_ratio, defScope s__require_ratio, [], []⟩
def d_is_small_prime : He.DefD := ⟨("is_small_prime", none), "is_small_prime", "is_small_prime", defArgs s_is_small_prime, defBody s_is_small_prime, defScope s_is_small_prime, [], []⟩
def d_Residueu_initu : He.DefD := ⟨("Residue", some "__init__"), "__init__", "Residue.__init__", defArgs s_Residueu_initu, defBody s_Residueu_initu, defScope s_Residueu_initu, [], []⟩
def d_Residueu_addu : He.DefD := ⟨("Residue", some "__add__"), "__add__", "Residue.__add__", defArgs s_Residueu_addu, defBody s_Residueu_addu, defScope s_Residueu_addu, [], []⟩
def d_Residueu_subu : He.DefD := ⟨("Residue", some "__sub__"), "__sub__", "Residue.__sub__", defArgs s_Residueu_subu, defBody s_Residueu_subu, defScope s_Residueu_subu, [], []⟩
def d_Residueu_mulu : He.DefD := ⟨("Residue", some "__mul__"), "__mul__", "Residue.__mul__", defArgs s_Residueu_mulu, defBody s_Residueu_mulu, defScope s_Residueu_mulu, [], []⟩
def d_Residueu_negu : He.DefD := ⟨("Residue", some "__neg__"), "__neg__", "Residue.__neg__", defArgs s_Residueu_negu, defBody s_Residueu_negu, defScope s_Residueu_negu, [], []⟩
def d_Residueu_equ : He.DefD := ⟨("Residue", some "__eq__"), "__eq__", "Residue.__eq__", defArgs s_Residueu_equ, defBody s_Residueu_equ, defScope s_Residueu_equ, [], []⟩
def d_Residueu_stru : He.DefD := ⟨("Residue", some "__str__"), "__str__", "Residue.__str__", defArgs s_Residueu_stru, defBody s_Residueu_stru, defScope s_Residueu_stru, [], []⟩
def d_Residue_is_zero : He.DefD := ⟨("Residue", some "is_zero"), "is_zero", "Residue.is_zero", defArgs s_Residue_is_zero, defBody s_Residue_is_zero, defScope s_Residue_is_zero, [], []⟩
def d_Residue_inverse : He.DefD := ⟨("Residue", some "inverse"), "inverse", "Residue.inverse", defArgs s_Residue_inverse, defBody s_Residue_inverse, defScope s_Residue_inverse, [], []⟩
def d_Residue_over : He.DefD := ⟨("Residue", some "over"), "over", "Residue.over", defArgs s_Residue_over, defBody s_Residue_over, defScope s_Residue_over, [], []⟩
def d_Residue_power : He.DefD := ⟨("Residue", some "power"), "power", "Residue.power", defArgs s_Residue_power, defBody s_Residue_power, defScope s_Residue_power, [], []⟩
def d__require_like : He.DefD := ⟨("_require_like", none), "_require_like", "_require_like", defArgs s__require_like, defBody s__require_like, defScope s__require_like, [], []⟩
def d_Groundu_initu : He.DefD := ⟨("Ground", some "__init__"), "__init__", "Ground.__init__", defArgs s_Groundu_initu, defBody s_Groundu_initu, defScope s_Groundu_initu, [.int 0], []⟩
def d_Groundu_equ : He.DefD := ⟨("Ground", some "__eq__"), "__eq__", "Ground.__eq__", defArgs s_Groundu_equ, defBody s_Groundu_equ, defScope s_Groundu_equ, [], []⟩
def d_Ground_number : He.DefD := ⟨("Ground", some "number"), "number", "Ground.number", defArgs s_Ground_number, defBody s_Ground_number, defScope s_Ground_number, [.int 1], []⟩
def d_Ground_zero : He.DefD := ⟨("Ground", some "zero"), "zero", "Ground.zero", defArgs s_Ground_zero, defBody s_Ground_zero, defScope s_Ground_zero, [], []⟩
def d_Ground_one : He.DefD := ⟨("Ground", some "one"), "one", "Ground.one", defArgs s_Ground_one, defBody s_Ground_one, defScope s_Ground_one, [], []⟩
def d_Ground_is_member : He.DefD := ⟨("Ground", some "is_member"), "is_member", "Ground.is_member", defArgs s_Ground_is_member, defBody s_Ground_is_member, defScope s_Ground_is_member, [], []⟩
def d_Ground_members : He.DefD := ⟨("Ground", some "members"), "members", "Ground.members", defArgs s_Ground_members, defBody s_Ground_members, defScope s_Ground_members, [], []⟩
def d_Ground_read : He.DefD := ⟨("Ground", some "read"), "read", "Ground.read", defArgs s_Ground_read, defBody s_Ground_read, defScope s_Ground_read, [], []⟩
def d_taken : He.DefD := ⟨("taken", none), "taken", "taken", defArgs s_taken, defBody s_taken, defScope s_taken, [], []⟩
def d__ratio_with : He.DefD := ⟨("_ratio_with", none), "_ratio_with", "_ratio_with", defArgs s__ratio_with, defBody s__ratio_with, defScope s__ratio_with, [], []⟩
def d__member_with : He.DefD := ⟨("_member_with", none), "_member_with", "_member_with", defArgs s__member_with, defBody s__member_with, defScope s__member_with, [], []⟩
def d_Polyu_initu : He.DefD := ⟨("Poly", some "__init__"), "__init__", "Poly.__init__", defArgs s_Polyu_initu, defBody s_Polyu_initu, defScope s_Polyu_initu, [], []⟩
def d_Polyu_addu : He.DefD := ⟨("Poly", some "__add__"), "__add__", "Poly.__add__", defArgs s_Polyu_addu, defBody s_Polyu_addu, defScope s_Polyu_addu, [], []⟩
def d_Polyu_subu : He.DefD := ⟨("Poly", some "__sub__"), "__sub__", "Poly.__sub__", defArgs s_Polyu_subu, defBody s_Polyu_subu, defScope s_Polyu_subu, [], []⟩
def d_Polyu_mulu : He.DefD := ⟨("Poly", some "__mul__"), "__mul__", "Poly.__mul__", defArgs s_Polyu_mulu, defBody s_Polyu_mulu, defScope s_Polyu_mulu, [], []⟩
def d_Polyu_negu : He.DefD := ⟨("Poly", some "__neg__"), "__neg__", "Poly.__neg__", defArgs s_Polyu_negu, defBody s_Polyu_negu, defScope s_Polyu_negu, [], []⟩
def d_Polyu_floordivu : He.DefD := ⟨("Poly", some "__floordiv__"), "__floordiv__", "Poly.__floordiv__", defArgs s_Polyu_floordivu, defBody s_Polyu_floordivu, defScope s_Polyu_floordivu, [], []⟩
def d_Polyu_modu : He.DefD := ⟨("Poly", some "__mod__"), "__mod__", "Poly.__mod__", defArgs s_Polyu_modu, defBody s_Polyu_modu, defScope s_Polyu_modu, [], []⟩
def d_Polyu_equ : He.DefD := ⟨("Poly", some "__eq__"), "__eq__", "Poly.__eq__", defArgs s_Polyu_equ, defBody s_Polyu_equ, defScope s_Polyu_equ, [], []⟩
def d_Polyu_callu : He.DefD := ⟨("Poly", some "__call__"), "__call__", "Poly.__call__", defArgs s_Polyu_callu, defBody s_Polyu_callu, defScope s_Polyu_callu, [], []⟩
def d_Polyu_stru : He.DefD := ⟨("Poly", some "__str__"), "__str__", "Poly.__str__", defArgs s_Polyu_stru, defBody s_Polyu_stru, defScope s_Polyu_stru, [], []⟩
def d_Poly_degree : He.DefD := ⟨("Poly", some "degree"), "degree", "Poly.degree", defArgs s_Poly_degree, defBody s_Poly_degree, defScope s_Poly_degree, [], []⟩
def d_Poly_is_zero : He.DefD := ⟨("Poly", some "is_zero"), "is_zero", "Poly.is_zero", defArgs s_Poly_is_zero, defBody s_Poly_is_zero, defScope s_Poly_is_zero, [], []⟩
def d_Poly_coefficient : He.DefD := ⟨("Poly", some "coefficient"), "coefficient", "Poly.coefficient", defArgs s_Poly_coefficient, defBody s_Poly_coefficient, defScope s_Poly_coefficient, [], []⟩
def d_Poly_scaled : He.DefD := ⟨("Poly", some "scaled"), "scaled", "Poly.scaled", defArgs s_Poly_scaled, defBody s_Poly_scaled, defScope s_Poly_scaled, [], []⟩
def d_Poly_monic : He.DefD := ⟨("Poly", some "monic"), "monic", "Poly.monic", defArgs s_Poly_monic, defBody s_Poly_monic, defScope s_Poly_monic, [], []⟩
def d_Poly_derivative : He.DefD := ⟨("Poly", some "derivative"), "derivative", "Poly.derivative", defArgs s_Poly_derivative, defBody s_Poly_derivative, defScope s_Poly_derivative, [], []⟩
def d_Poly_power : He.DefD := ⟨("Poly", some "power"), "power", "Poly.power", defArgs s_Poly_power, defBody s_Poly_power, defScope s_Poly_power, [], []⟩
def d_require_like : He.DefD := ⟨("require_like", none), "require_like", "require_like", defArgs s_require_like, defBody s_require_like, defScope s_require_like, [], []⟩
def d__divided : He.DefD := ⟨("_divided", none), "_divided", "_divided", defArgs s__divided, defBody s__divided, defScope s__divided, [], []⟩
def d__term : He.DefD := ⟨("_term", none), "_term", "_term", defArgs s__term, defBody s__term, defScope s__term, [], []⟩
def d__law_numbers : He.DefD := ⟨("_law_numbers", none), "_law_numbers", "_law_numbers", defArgs s__law_numbers, defBody s__law_numbers, defScope s__law_numbers, [], []⟩
def d__law_next : He.DefD := ⟨("_law_next", none), "_law_next", "_law_next", defArgs s__law_next, defBody s__law_next, defScope s__law_next, [], []⟩
def d__law_prime : He.DefD := ⟨("_law_prime", none), "_law_prime", "_law_prime", defArgs s__law_prime, defBody s__law_prime, defScope s__law_prime, [], []⟩
def d__law_ground : He.DefD := ⟨("_law_ground", none), "_law_ground", "_law_ground", defArgs s__law_ground, defBody s__law_ground, defScope s__law_ground, [], []⟩
def d__law_rest : He.DefD := ⟨("_law_rest", none), "_law_rest", "_law_rest", defArgs s__law_rest, defBody s__law_rest, defScope s__law_rest, [], []⟩
def d__law_trim : He.DefD := ⟨("_law_trim", none), "_law_trim", "_law_trim", defArgs s__law_trim, defBody s__law_trim, defScope s__law_trim, [], []⟩
def d__law_row : He.DefD := ⟨("_law_row", none), "_law_row", "_law_row", defArgs s__law_row, defBody s__law_row, defScope s__law_row, [], []⟩
def d_law : He.DefD := ⟨("law", none), "law", "law", defArgs s_law, defBody s_law, defScope s_law, [], []⟩
def fn : List He.DefD := [d_digits_of, d_powered, d_is_integer, d_Ratiou_initu, d_Ratiou_stru, d_Ratio_is_zero, d_is_small_prime, d_Residueu_initu, d_Residueu_mulu, d_Residueu_stru, d_Residue_is_zero, d_Residue_inverse, d_Residue_over, d_Residue_power, d__require_like, d_Groundu_initu, d_Ground_number, d_Ground_is_member, d_taken, d_Polyu_initu, d_Polyu_stru, d_Poly_degree, d_Poly_is_zero, d__term, d__law_numbers, d__law_next, d__law_prime, d__law_ground, d__law_rest, d__law_trim, d__law_row, d_law]
def fa : List He.Fa := [.glo "ZeroDivisor", .glo "Malformed", .glo "digits_of", .glo "powered", .glo "is_integer", .glo "Ratio", .glo "is_small_prime", .glo "Residue", .glo "_require_like", .glo "Ground", .glo "taken", .glo "Poly", .glo "_term", .glo "_law_numbers", .glo "_law_next", .glo "_law_prime", .glo "_law_ground", .glo "_law_rest", .glo "_law_trim", .glo "_law_row", .glo "law", .free "abs", .free "bool", .free "int", .free "isinstance", .free "len", .free "list", .free "min", .free "range", .free "str", .free "tuple", .cls "Ratio", .mkr "Ratio", .noat "Ratio" "n", .noat "Ratio" "d", .meth "Ratio" "__str__", .meth "Ratio" "is_zero", .cls "Residue", .mkr "Residue", .noat "Residue" "p", .noat "Residue" "n", .meth "Residue" "__mul__", .meth "Residue" "__str__", .meth "Residue" "is_zero", .meth "Residue" "inverse", .meth "Residue" "over", .meth "Residue" "power", .cls "Ground", .mkr "Ground", .noat "Ground" "p", .meth "Ground" "number", .meth "Ground" "is_member", .cls "Poly", .mkr "Poly", .noat "Poly" "ground", .noat "Poly" "row", .meth "Poly" "__str__", .meth "Poly" "degree", .meth "Poly" "is_zero", .int "_PIECE" 10000000000000000000000000000000000000000000000000000000000000000, .glo "_PRIMES", .exc "ZeroDivisor", .exc "Malformed"]
def exs : List (PySem.W.Frag → Bool) := [fun K => He.eqO (PySem.W.nsIn K mainGlobals "gcd") (some (some (.builtin "math.gcd"))),
  fun K => He.eqO (PySem.W.specialIn K (.builtin "object.__class__") "__get__") (some (some (.builtin "getset_descriptor.__get__"))) && decide (PySem.W.takesIn K (.builtin "object.__class__") = some true),
  fun K => He.eqO (PySem.W.findIn K (.ref (He.ga K "Ratio")) "__class__") (some (some (.builtin "object.__class__"))) && decide (PySem.W.mroIn K (He.ga K "Ratio") (.type "object") = some true),
  fun K => decide (PySem.W.kitOne K (.ref (He.ga K "Ratio")) (.ref (He.ga K "Ratio")) = some true),
  fun K => PySem.W.selfFirst K (He.ga K "Residue"),
  fun K => He.eqO (PySem.W.findIn K (.ref (He.ga K "Residue")) "__class__") (some (some (.builtin "object.__class__"))) && decide (PySem.W.mroIn K (He.ga K "Residue") (.type "object") = some true),
  fun K => decide (PySem.W.kitOne K (.ref (He.ga K "Residue")) (.ref (He.ga K "Residue")) = some true),
  fun K => He.tupB K "_PRIMES" [.int 2, .int 3, .int 5, .int 7, .int 11, .int 13, .int 17, .int 19, .int 23, .int 29, .int 31]]
def ex (K : PySem.W.Frag) : Bool := exs.all fun f => f K
structure Tx (K : PySem.W.Frag) (mg : Str → Option Value) : Prop where
  g_ZeroDivisor : mg "ZeroDivisor" = some (.ref (He.ga K "ZeroDivisor"))
  g_Malformed : mg "Malformed" = some (.ref (He.ga K "Malformed"))
  g_digits_of : mg "digits_of" = some (.ref (He.ga K "digits_of"))
  g_powered : mg "powered" = some (.ref (He.ga K "powered"))
  g_is_integer : mg "is_integer" = some (.ref (He.ga K "is_integer"))
  g_Ratio : mg "Ratio" = some (.ref (He.ga K "Ratio"))
  g_is_small_prime : mg "is_small_prime" = some (.ref (He.ga K "is_small_prime"))
  g_Residue : mg "Residue" = some (.ref (He.ga K "Residue"))
  g__require_like : mg "_require_like" = some (.ref (He.ga K "_require_like"))
  g_Ground : mg "Ground" = some (.ref (He.ga K "Ground"))
  g_taken : mg "taken" = some (.ref (He.ga K "taken"))
  g_Poly : mg "Poly" = some (.ref (He.ga K "Poly"))
  g__term : mg "_term" = some (.ref (He.ga K "_term"))
  g__law_numbers : mg "_law_numbers" = some (.ref (He.ga K "_law_numbers"))
  g__law_next : mg "_law_next" = some (.ref (He.ga K "_law_next"))
  g__law_prime : mg "_law_prime" = some (.ref (He.ga K "_law_prime"))
  g__law_ground : mg "_law_ground" = some (.ref (He.ga K "_law_ground"))
  g__law_rest : mg "_law_rest" = some (.ref (He.ga K "_law_rest"))
  g__law_trim : mg "_law_trim" = some (.ref (He.ga K "_law_trim"))
  g__law_row : mg "_law_row" = some (.ref (He.ga K "_law_row"))
  g_law : mg "law" = some (.ref (He.ga K "law"))
  f_abs : mg "abs" = none
  f_bool : mg "bool" = none
  f_int : mg "int" = none
  f_isinstance : mg "isinstance" = none
  f_len : mg "len" = none
  f_list : mg "list" = none
  f_min : mg "min" = none
  f_range : mg "range" = none
  f_str : mg "str" = none
  f_tuple : mg "tuple" = none
  c_Ratio : Cls K (He.ga K "Ratio")
  k_Ratio : Mk K (He.ga K "Ratio") (He.ma K (He.ga K "Ratio") "__init__")
  n_Ratio_n : NoAttr K (He.ga K "Ratio") "n"
  n_Ratio_d : NoAttr K (He.ga K "Ratio") "d"
  m_Ratio_ustru : Meth K (He.ga K "Ratio") "__str__" (He.ma K (He.ga K "Ratio") "__str__")
  m_Ratio_is_zero : Meth K (He.ga K "Ratio") "is_zero" (He.ma K (He.ga K "Ratio") "is_zero")
  c_Residue : Cls K (He.ga K "Residue")
  k_Residue : Mk K (He.ga K "Residue") (He.ma K (He.ga K "Residue") "__init__")
  n_Residue_p : NoAttr K (He.ga K "Residue") "p"
  n_Residue_n : NoAttr K (He.ga K "Residue") "n"
  m_Residue_umulu : Meth K (He.ga K "Residue") "__mul__" (He.ma K (He.ga K "Residue") "__mul__")
  m_Residue_ustru : Meth K (He.ga K "Residue") "__str__" (He.ma K (He.ga K "Residue") "__str__")
  m_Residue_is_zero : Meth K (He.ga K "Residue") "is_zero" (He.ma K (He.ga K "Residue") "is_zero")
  m_Residue_inverse : Meth K (He.ga K "Residue") "inverse" (He.ma K (He.ga K "Residue") "inverse")
  m_Residue_over : Meth K (He.ga K "Residue") "over" (He.ma K (He.ga K "Residue") "over")
  m_Residue_power : Meth K (He.ga K "Residue") "power" (He.ma K (He.ga K "Residue") "power")
  c_Ground : Cls K (He.ga K "Ground")
  k_Ground : Mk K (He.ga K "Ground") (He.ma K (He.ga K "Ground") "__init__")
  n_Ground_p : NoAttr K (He.ga K "Ground") "p"
  m_Ground_number : Meth K (He.ga K "Ground") "number" (He.ma K (He.ga K "Ground") "number")
  m_Ground_is_member : Meth K (He.ga K "Ground") "is_member" (He.ma K (He.ga K "Ground") "is_member")
  c_Poly : Cls K (He.ga K "Poly")
  k_Poly : Mk K (He.ga K "Poly") (He.ma K (He.ga K "Poly") "__init__")
  n_Poly_ground : NoAttr K (He.ga K "Poly") "ground"
  n_Poly_row : NoAttr K (He.ga K "Poly") "row"
  m_Poly_ustru : Meth K (He.ga K "Poly") "__str__" (He.ma K (He.ga K "Poly") "__str__")
  m_Poly_degree : Meth K (He.ga K "Poly") "degree" (He.ma K (He.ga K "Poly") "degree")
  m_Poly_is_zero : Meth K (He.ga K "Poly") "is_zero" (He.ma K (He.ga K "Poly") "is_zero")
  i__PIECE : ∃ t, mg "_PIECE" = some (.int 10000000000000000000000000000000000000000000000000000000000000000 t)
  g__PRIMES : mg "_PRIMES" = some (.ref (He.ga K "_PRIMES"))
  e_ZeroDivisor : PySem.W.excIn K (He.ga K "ZeroDivisor") He.veBase "ValueError.__new__" = true ∧ PySem.W.keepIn K (.ref (He.ga K "ZeroDivisor")) = true ∧ PySem.W.subIn K (.ref (He.ga K "ZeroDivisor")) (.type "BaseException") = some true ∧ PySem.W.typeIn K (.ref (He.ga K "ZeroDivisor")) = some (.type "type")
  e_Malformed : PySem.W.excIn K (He.ga K "Malformed") He.veBase "ValueError.__new__" = true ∧ PySem.W.keepIn K (.ref (He.ga K "Malformed")) = true ∧ PySem.W.subIn K (.ref (He.ga K "Malformed")) (.type "BaseException") = some true ∧ PySem.W.typeIn K (.ref (He.ga K "Malformed")) = some (.type "type")
  b_gcd : mg "gcd" = some (.builtin "math.gcd")
  oc : PySem.W.specialIn K (.builtin "object.__class__") "__get__" = some (some (.builtin "getset_descriptor.__get__")) ∧ PySem.W.takesIn K (.builtin "object.__class__") = some true
  oi_Ratio : PySem.W.findIn K (.ref (He.ga K "Ratio")) "__class__" = some (some (.builtin "object.__class__")) ∧ PySem.W.mroIn K (He.ga K "Ratio") (.type "object") = some true
  ki_Ratio_Ratio : PySem.W.kitOne K (.ref (He.ga K "Ratio")) (.ref (He.ga K "Ratio")) = some true
  sf_Residue : PySem.W.selfFirst K (He.ga K "Residue") = true
  oi_Residue : PySem.W.findIn K (.ref (He.ga K "Residue")) "__class__" = some (some (.builtin "object.__class__")) ∧ PySem.W.mroIn K (He.ga K "Residue") (.type "object") = some true
  ki_Residue_Residue : PySem.W.kitOne K (.ref (He.ga K "Residue")) (.ref (He.ga K "Residue")) = some true
  t__PRIMES : ∀ H, SqT K H (He.ga K "_PRIMES") ([.int 2, .int 3, .int 5, .int 7, .int 11, .int 13, .int 17, .int 19, .int 23, .int 29, .int 31] : List V)
theorem tx_of {w : World} {K : PySem.W.Frag} {h : Heap} {mg : Str → Option Value} (X : K.In h) (G : h.Ns mainGlobals mg) (c : He.SaysX fa fn [] [] ex w h K) : Tx K mg := by
  have xt : ∀ (i : Nat) {f : PySem.W.Frag → Bool}, exs[i]? = some f → f K = true := fun i f e => List.all_eq_true.mp c.more f (List.mem_of_getElem? e)
  have cd : He.SaysD fa fn K := congrArg (fun z : He.AlT => z.1) c.t
  exact {
    g_ZeroDivisor := He.glo_ok X G (cd.fact 0),
    g_Malformed := He.glo_ok X G (cd.fact 1),
    g_digits_of := He.glo_ok X G (cd.fact 2),
    g_powered := He.glo_ok X G (cd.fact 3),
    g_is_integer := He.glo_ok X G (cd.fact 4),
    g_Ratio := He.glo_ok X G (cd.fact 5),
    g_is_small_prime := He.glo_ok X G (cd.fact 6),
    g_Residue := He.glo_ok X G (cd.fact 7),
    g__require_like := He.glo_ok X G (cd.fact 8),
    g_Ground := He.glo_ok X G (cd.fact 9),
    g_taken := He.glo_ok X G (cd.fact 10),
    g_Poly := He.glo_ok X G (cd.fact 11),
    g__term := He.glo_ok X G (cd.fact 12),
    g__law_numbers := He.glo_ok X G (cd.fact 13),
    g__law_next := He.glo_ok X G (cd.fact 14),
    g__law_prime := He.glo_ok X G (cd.fact 15),
    g__law_ground := He.glo_ok X G (cd.fact 16),
    g__law_rest := He.glo_ok X G (cd.fact 17),
    g__law_trim := He.glo_ok X G (cd.fact 18),
    g__law_row := He.glo_ok X G (cd.fact 19),
    g_law := He.glo_ok X G (cd.fact 20),
    f_abs := He.free_ok X G (cd.fact 21),
    f_bool := He.free_ok X G (cd.fact 22),
    f_int := He.free_ok X G (cd.fact 23),
    f_isinstance := He.free_ok X G (cd.fact 24),
    f_len := He.free_ok X G (cd.fact 25),
    f_list := He.free_ok X G (cd.fact 26),
    f_min := He.free_ok X G (cd.fact 27),
    f_range := He.free_ok X G (cd.fact 28),
    f_str := He.free_ok X G (cd.fact 29),
    f_tuple := He.free_ok X G (cd.fact 30),
    c_Ratio := He.cls_ok (cd.fact 31),
    k_Ratio := He.mkr_ok (cd.fact 32),
    n_Ratio_n := He.noat_ok (cd.fact 33),
    n_Ratio_d := He.noat_ok (cd.fact 34),
    m_Ratio_ustru := He.meth_ok (cd.fact 35),
    m_Ratio_is_zero := He.meth_ok (cd.fact 36),
    c_Residue := He.cls_ok (cd.fact 37),
    k_Residue := He.mkr_ok (cd.fact 38),
    n_Residue_p := He.noat_ok (cd.fact 39),
    n_Residue_n := He.noat_ok (cd.fact 40),
    m_Residue_umulu := He.meth_ok (cd.fact 41),
    m_Residue_ustru := He.meth_ok (cd.fact 42),
    m_Residue_is_zero := He.meth_ok (cd.fact 43),
    m_Residue_inverse := He.meth_ok (cd.fact 44),
    m_Residue_over := He.meth_ok (cd.fact 45),
    m_Residue_power := He.meth_ok (cd.fact 46),
    c_Ground := He.cls_ok (cd.fact 47),
    k_Ground := He.mkr_ok (cd.fact 48),
    n_Ground_p := He.noat_ok (cd.fact 49),
    m_Ground_number := He.meth_ok (cd.fact 50),
    m_Ground_is_member := He.meth_ok (cd.fact 51),
    c_Poly := He.cls_ok (cd.fact 52),
    k_Poly := He.mkr_ok (cd.fact 53),
    n_Poly_ground := He.noat_ok (cd.fact 54),
    n_Poly_row := He.noat_ok (cd.fact 55),
    m_Poly_ustru := He.meth_ok (cd.fact 56),
    m_Poly_degree := He.meth_ok (cd.fact 57),
    m_Poly_is_zero := He.meth_ok (cd.fact 58),
    i__PIECE := He.int_ok X G (cd.fact 59),
    g__PRIMES := He.glo_ok X G (cd.fact 60),
    e_ZeroDivisor := He.exc_ok (cd.fact 61),
    e_Malformed := He.exc_ok (cd.fact 62),
    b_gcd := PySem.W.mg_of X G (He.eqO_ok (xt 0 rfl)),
    oc := (He.ba (xt 1 rfl)).imp He.eqO_ok of_decide_eq_true,
    oi_Ratio := (He.ba (xt 2 rfl)).imp He.eqO_ok of_decide_eq_true,
    ki_Ratio_Ratio := of_decide_eq_true (xt 3 rfl),
    sf_Residue := xt 4 rfl,
    oi_Residue := (He.ba (xt 5 rfl)).imp He.eqO_ok of_decide_eq_true,
    ki_Residue_Residue := of_decide_eq_true (xt 6 rfl),
    t__PRIMES := fun H => He.tupB_ok (vs := [.int 2, .int 3, .int 5, .int 7, .int 11, .int 13, .int 17, .int 19, .int 23, .int 29, .int 31]) (xt 7 rfl) H }
abbrev R : PySem.W.OpenRow := PySem.W.OpenLaw.row PySem.Challenge.rw_similarforms_k11_texts_of_polynomials
abbrev qv : Program := PySem.W.view R.prog [0, 43]
def names : List Str := [("_wall" : Str), ("Fault" : Str), ("ZeroDivisor" : Str), ("Malformed" : Str), ("Refused" : Str), ("NoText" : Str), ("_LENGTH" : Str), ("_PIECE" : Str), ("digits_of" : Str), ("natural_with" : Str), ("integer_with" : Str), ("powered" : Str), ("is_integer" : Str), ("Ratio" : Str), ("_require_ratio" : Str), ("_PRIMES" : Str), ("is_small_prime" : Str), ("Residue" : Str), ("_require_like" : Str), ("Ground" : Str), ("taken" : Str), ("_ratio_with" : Str), ("_member_with" : Str), ("Poly" : Str), ("require_like" : Str), ("_divided" : Str), ("_term" : Str), ("_law_numbers" : Str), ("_law_next" : Str), ("_law_prime" : Str), ("_law_ground" : Str), ("_law_rest" : Str), ("_law_trim" : Str), ("_law_row" : Str)]
abbrev hk : PySem.W.Hook := He.hookX 6 fa fn [] [] ex
def ob (s : PySem.W.SharedT) : He.AlX := He.obsX 6 fa fn [] [] ex (HandSHeadRun.getT s)
theorem ob_eq (s : PySem.W.SharedT) : ob s = hk.obs s.abs := He.obsX_eq (HandSHeadRun.getT_eq s)
theorem run (w : World) : HandSHeadRun.RunEqI R qv hk ob 9000 names w := by
  unfold HandSHeadRun.RunEqI
  kernel_rfl
end K11
set_option maxHeartbeats 4000000
set_option autoImplicit false
namespace Sf
open PySem L2

/-- what a value is, without the heap -/
inductive Dat where
  | v (x : V)
  | lst (xs : List Dat)
  | tup (xs : List Dat)
  | ins (C : Addr) (ks : List Str) (xs : List Dat)
abbrev dI (i : Int) : Dat := .v (.int i)
abbrev dB (b : Bool) : Dat := .v (.bl b)
abbrev dS (x : Str) : Dat := .v (.str x)
abbrev dN : Dat := .v .non

def Ex (H H' : Hp) : Prop := ∀ a o, H a = some o → H' a = some o
theorem Ex.refl (H : Hp) : Ex H H := fun _ _ h => h
theorem Ex.trans {H H1 H2 : Hp} (a : Ex H H1) (b : Ex H1 H2) : Ex H H2 := fun c o h => b c o (a c o h)
theorem Ex.sqt {K : PySem.W.Frag} {H H' : Hp} {a : Addr} {xs : List V} (e : Ex H H') (h : SqT K H a xs) : SqT K H' a xs :=
  h.elim (fun h => .inl (h.elim (fun h => .inl (e _ _ h)) fun ⟨o, h⟩ => .inr ⟨o, e _ _ h⟩)) fun h => .inr h
theorem Ex.sql {K : PySem.W.Frag} {H H' : Hp} {a : Addr} {xs : List V} (e : Ex H H') (h : SqL K H a xs) : SqL K H' a xs :=
  h.elim (fun h => .inl (h.elim (fun h => .inl (e _ _ h)) fun ⟨o, h⟩ => .inr ⟨o, e _ _ h⟩)) fun h => .inr h

mutual
inductive Is (K : PySem.W.Frag) : Dat → V → Hp → Prop where
  | v {x : V} {F : Hp} : Is K (.v x) x F
  | lst {a : Addr} {ds : List Dat} {vs : List V} {F : Hp} (h : SqL K F a vs) (hs : Isl K ds vs F) : Is K (.lst ds) (.ref a) F
  | tup {a : Addr} {ds : List Dat} {vs : List V} {F : Hp} (h : SqT K F a vs) (hs : Isl K ds vs F) : Is K (.tup ds) (.ref a) F
  | ins {a C dx : Addr} {ks : List Str} {ds : List Dat} {vs : List V} {F : Hp} (h : F a = some (.ins C dx (ks.zip vs))) (hl : ks.length = vs.length) (hs : Isl K ds vs F) : Is K (.ins C ks ds) (.ref a) F
inductive Isl (K : PySem.W.Frag) : List Dat → List V → Hp → Prop where
  | nil {F : Hp} : Isl K [] [] F
  | cons {d : Dat} {ds : List Dat} {x : V} {xs : List V} {F : Hp} (h : Is K d x F) (hs : Isl K ds xs F) : Isl K (d :: ds) (x :: xs) F
end

section
variable {K : PySem.W.Frag} {F F' H H' : Hp} {d : Dat} {ds : List Dat} {x : V} {xs : List V}
mutual
theorem Is.mono {F F' : Hp} (e : Ex F F') : ∀ {d : Dat} {x : V}, Is K d x F → Is K d x F'
  | _, _, .v => .v
  | _, _, .lst h hs => .lst (e.sql h) (Isl.mono e hs)
  | _, _, .tup h hs => .tup (e.sqt h) (Isl.mono e hs)
  | _, _, .ins h hl hs => .ins (e _ _ h) hl (Isl.mono e hs)
theorem Isl.mono {F F' : Hp} (e : Ex F F') : ∀ {ds : List Dat} {xs : List V}, Isl K ds xs F → Isl K ds xs F'
  | _, _, .nil => .nil
  | _, _, .cons h hs => .cons (Is.mono e h) (Isl.mono e hs)
end
theorem Isl.length : ∀ {ds : List Dat} {xs : List V}, Isl K ds xs F → ds.length = xs.length
  | _, _, .nil => rfl
  | _, _, .cons h hs => by rw [List.length_cons, List.length_cons, Isl.length hs]
theorem Isl.get : ∀ {ds : List Dat} {xs : List V} {i : Nat} {d : Dat}, Isl K ds xs F → ds[i]? = some d → ∃ x, xs[i]? = some x ∧ Is K d x F
  | _, _, _, _, .nil, e => by simp at e
  | _, _, 0, _, .cons h hs, e => by simp at e; subst e; exact ⟨_, rfl, h⟩
  | _, _, i + 1, _, .cons h hs, e => by
    obtain ⟨x, h1, h2⟩ := Isl.get (i := i) hs (by simpa using e)
    exact ⟨x, by simpa using h1, h2⟩
theorem Isl.get' : ∀ {ds : List Dat} {xs : List V} {i : Nat} {x : V}, Isl K ds xs F → xs[i]? = some x → ∃ d, ds[i]? = some d ∧ Is K d x F
  | _, _, _, _, .nil, e => by simp at e
  | _, _, 0, _, .cons h hs, e => by simp at e; subst e; exact ⟨_, rfl, h⟩
  | _, _, i + 1, _, .cons h hs, e => by
    obtain ⟨x, h1, h2⟩ := Isl.get' (i := i) hs (by simpa using e)
    exact ⟨x, by simpa using h1, h2⟩
theorem Isl.append : ∀ {ds es : List Dat} {xs ys : List V}, Isl K ds xs F → Isl K es ys F → Isl K (ds ++ es) (xs ++ ys) F
  | _, _, _, _, .nil, h => h
  | _, _, _, _, .cons a b, h => .cons a (Isl.append b h)
/-- a flat datum is its value -/
theorem is_v {v x : V} (h : Is K (.v v) x F) : x = v := by cases h; rfl
end

/-! ### the state of a def: na: the one list that a caller lent; (F0, H0) the entry; F: the part that never changes -/
structure Cur (na : Option Addr) (F0 H0 F H : Hp) : Prop where
  ff : Ex F0 F
  hh : ∀ a o, na ≠ some a → H0 a = some o → H a = some o
  fh : Ex F H
  pr : ∀ a o, H0 a = some o → F0 a = none → F a = none
  lv : ∀ a, na = some a → (∃ o, H a = some o) ∧ F a = none
  nz : ∀ a, na = some a → ∃ o, H0 a = some o
theorem Cur.start {F H : Hp} (e : Ex F H) : Cur none F H F H := ⟨.refl _, fun _ _ _ h => h, e, fun _ _ _ h => h, (fun _ h => nomatch h), (fun _ h => nomatch h)⟩
theorem Cur.startN {F H : Hp} {a : Addr} {o : HO} (e : Ex F H) (ha : H a = some o) (hf : F a = none) : Cur (some a) F H F H := ⟨.refl _, fun _ _ _ h => h, e, fun _ _ _ h => h, fun b h => by cases h; exact ⟨⟨o, ha⟩, hf⟩, fun b h => by cases h; exact ⟨o, ha⟩⟩

inductive Sl where
  | no
  | pu (d : Dat)
  | ow (l : Bool) (ds : List Dat)
  | ob (C : Addr) (ks : List Str) (ds : List Dat)

structure Env1 (K : PySem.W.Frag) (ρ : List Sl) (σ : L2.St) (na : Option Addr) (H0 F H : Hp) : Prop where
  pu : ∀ (i : Nat) (d : Dat), ρ[i]? = some (Sl.pu d) → ∃ v, σ[i]? = some (some v) ∧ Is K d v F
  ow : ∀ (i : Nat) (l : Bool) (ds : List Dat), ρ[i]? = some (Sl.ow l ds) → ∃ a vs, σ[i]? = some (some (V.ref a)) ∧ F a = none ∧ H a = some (HO.lst vs) ∧ Isl K ds vs F ∧ (l = true → na = some a) ∧ (l = false → H0 a = none)
  ob : ∀ (i : Nat) (C : Addr) (ks : List Str) (ds : List Dat), ρ[i]? = some (Sl.ob C ks ds) → ∃ a dx vs, σ[i]? = some (some (V.ref a)) ∧ na = some a ∧ F a = none ∧ H a = some (HO.ins C dx (ks.zip vs)) ∧ ks.length = vs.length ∧ Isl K ds vs F
  ap : ∀ (i j : Nat) (l m : Bool) (ds es : List Dat) (a : Addr), ρ[i]? = some (Sl.ow l ds) → ρ[j]? = some (Sl.ow m es) → σ[i]? = some (some (V.ref a)) → σ[j]? = some (some (V.ref a)) → i = j
  ao : ∀ (i j : Nat) (C D : Addr) (ks ls : List Str) (ds es : List Dat), ρ[i]? = some (Sl.ob C ks ds) → ρ[j]? = some (Sl.ob D ls es) → i = j
  ln : ρ.length = σ.length

/-- from (F, H) to (F', H') by what only makes objects -/
structure Stp (F H F' H' : Hp) : Prop where
  ff : Ex F F'
  hh : Ex H H'
  fh : Ex F' H'
  pr : ∀ a o, H a = some o → F a = none → F' a = none
theorem Stp.refl {F H : Hp} (e : Ex F H) : Stp F H F H := ⟨.refl _, .refl _, e, fun _ _ _ h => h⟩
theorem Stp.trans {F H F1 H1 F2 H2 : Hp} (a : Stp F H F1 H1) (b : Stp F1 H1 F2 H2) : Stp F H F2 H2 :=
  ⟨a.ff.trans b.ff, a.hh.trans b.hh, b.fh, fun c o h1 h2 => b.pr c o (a.hh c o h1) (a.pr c o h1 h2)⟩
theorem fnone {F H : Hp} {p : Addr} (e : Ex F H) (hp : H p = none) : F p = none := by
  cases q : F p with
  | none => rfl
  | some u => rw [e p u q] at hp; cases hp
theorem Stp.new {F H : Hp} {p : Addr} {o : HO} (e : Ex F H) (hp : H p = none) : Stp F H (upd F p o) (upd H p o) := by
  have fp : F p = none := fnone e hp
  refine ⟨fun a u h => ?_, fun a u h => ?_, fun a u h => ?_, fun a u h1 h2 => ?_⟩
  · rw [upd_ne (ne_of_none h fp)]; exact h
  · rw [upd_ne (ne_of_none h hp)]; exact h
  · by_cases q : a = p
    · subst q; rw [upd_same] at h ⊢; exact h
    · rw [upd_ne q] at h ⊢; exact e a u h
  · rw [upd_ne (ne_of_none h1 hp)]; exact h2
/-- something new that nobody looks at -/
theorem Stp.junk {F H : Hp} {p : Addr} {o : HO} (e : Ex F H) (hp : H p = none) : Stp F H F (upd H p o) := by
  refine ⟨.refl _, fun a u h => ?_, fun a u h => ?_, fun _ _ _ h => h⟩
  · rw [upd_ne (ne_of_none h hp)]; exact h
  · rw [upd_ne (ne_of_none (e a u h) hp)]; exact e a u h
theorem Cur.stp {na : Option Addr} {F0 H0 F H F' H' : Hp} (c : Cur na F0 H0 F H) (s : Stp F H F' H') : Cur na F0 H0 F' H' :=
  ⟨c.ff.trans s.ff, fun a o n h => s.hh a o (c.hh a o n h), s.fh, fun a o h1 h2 => by
    by_cases q : na = some a
    · obtain ⟨⟨u, hu⟩, hf⟩ := c.lv a q
      exact s.pr a u hu hf
    · exact s.pr a o (c.hh a o q h1) (c.pr a o h1 h2), fun a q => by
    obtain ⟨⟨u, hu⟩, hf⟩ := c.lv a q
    exact ⟨⟨u, s.hh a u hu⟩, s.pr a u hu hf⟩, c.nz⟩
section
variable {K : PySem.W.Frag} {ρ : List Sl} {σ : L2.St} {na : Option Addr} {F0 H0 F H F' H' : Hp}
theorem Env1.stp (e : Env1 K ρ σ na H0 F H) (s : Stp F H F' H') : Env1 K ρ σ na H0 F' H' :=
  ⟨fun i d h => let ⟨v, h1, h2⟩ := e.pu i d h; ⟨v, h1, h2.mono s.ff⟩, fun i l ds h => let ⟨a, vs, h1, h2, h3, h4, h5⟩ := e.ow i l ds h; ⟨a, vs, h1, s.pr a _ h3 h2, s.hh _ _ h3, h4.mono s.ff, h5⟩,
   fun i C ks ds h => let ⟨a, dx, vs, h1, h2, h3, h4, h5, h6⟩ := e.ob i C ks ds h; ⟨a, dx, vs, h1, h2, s.pr a _ h4 h3, s.hh _ _ h4, h5, h6.mono s.ff⟩, e.ap, e.ao, e.ln⟩
theorem Env1.set {i : Nat} {d : Dat} {v : V} (e : Env1 K ρ σ na H0 F H) (h : Is K d v F) : Env1 K (ρ.set i (.pu d)) (σ.set i (some v)) na H0 F H := by
  have other : ∀ {j : Nat} {s : Sl}, (ρ.set i (.pu d))[j]? = some s → (∀ d', s ≠ .pu d') → ρ[j]? = some s ∧ i ≠ j := fun {j s} h1 h2 => by
    by_cases q : i = j
    · subst q
      rw [List.getElem?_set_self'] at h1
      cases e1 : ρ[i]? with
      | none => rw [e1] at h1; cases h1
      | some z => rw [e1] at h1; cases h1; exact absurd rfl (h2 d)
    · rw [List.getElem?_set_ne q] at h1
      exact ⟨h1, q⟩
  refine ⟨fun j d' h1 => ?_, fun j l ds h1 => ?_, fun j C ks ds h1 => ?_, fun j j' l m ds es a h1 h2 h3 h4 => ?_, fun j j' C D ks ls ds es h1 h2 => e.ao j j' C D ks ls ds es (other h1 (fun _ z => nomatch z)).1 (other h2 (fun _ z => nomatch z)).1, by rw [List.length_set, List.length_set]; exact e.ln⟩
  · by_cases q : i = j
    · subst q
      have hi : i < ρ.length := by
        have := (List.getElem?_eq_some_iff.mp h1).1
        rwa [List.length_set] at this
      have e1 : (ρ.set i (.pu d))[i]? = some (.pu d) := List.getElem?_set_self hi
      rw [e1] at h1
      cases h1
      exact ⟨v, List.getElem?_set_self (by rw [← e.ln]; exact hi), h⟩
    · rw [List.getElem?_set_ne q] at h1 ⊢
      exact e.pu j d' h1
  · obtain ⟨h2, q⟩ := other h1 (fun _ z => nomatch z)
    rw [List.getElem?_set_ne q]
    exact e.ow j l ds h2
  · obtain ⟨h2, q⟩ := other h1 (fun _ z => nomatch z)
    rw [List.getElem?_set_ne q]
    exact e.ob j C ks ds h2
  · obtain ⟨g1, q1⟩ := other h1 (fun _ z => nomatch z)
    obtain ⟨g2, q2⟩ := other h2 (fun _ z => nomatch z)
    rw [List.getElem?_set_ne q1] at h3
    rw [List.getElem?_set_ne q2] at h4
    exact e.ap j j' l m ds es a g1 g2 h3 h4
theorem Cur.re (c : Cur na F0 H0 F H) : Cur na F H0 F H := ⟨.refl _, c.hh, c.fh, fun _ _ _ h => h, c.lv, c.nz⟩
theorem Cur.back (c : Cur na F0 H0 F H) (c' : Cur na F H0 F' H') : Cur na F0 H0 F' H' := ⟨c.ff.trans c'.ff, c'.hh, c'.fh, fun a o h1 h2 => c'.pr a o h1 (c.pr a o h1 h2), c'.lv, c'.nz⟩
end

/-! ### judgements -/
abbrev PD := Dat → List Sl → Prop
abbrev RX := Addr → List Sl → Prop
/-- what is wished of an exception is told -/
def ExcOk (K : PySem.W.Frag) (W : WX) (R : RX) (na : Option Addr) (F0 H0 : Hp) : Prop := ∀ C ρ σ F H, Cur na F0 H0 F H → Env1 K ρ σ na H0 F H → R C ρ → W (.ref C) none σ H
/-- an expression: from the slots ρ it gives a datum and new slots of which P is true, or raises -/
structure WE (X : Cx) (W : WX) (R : RX) (e : Expr) (ρ : List Sl) (P : PD) : Prop where
  run : ∀ (pins : List (Addr × Obj)) (s : Shared) (σ : L2.St) (na : Option Addr) (F0 H0 F H : Hp) (Q : VK), Inv X pins σ H s → Cur na F0 H0 F H → Env1 X.K ρ σ na H0 F H → ExcOk X.K W R na F0 H0 →
    (∀ d v ρ' F' H', Cur na F0 H0 F' H' → Env1 X.K ρ' σ na H0 F' H' → Is X.K d v F' → P d ρ' → Q v H') → wpAny (model X.prog X.w) X.A (eval e X.env) (EP X pins σ Q) X.xe s
structure WA (X : Cx) (W : WX) (R : RX) (es : List Expr) (ρ : List Sl) (P : List Dat → List Sl → Prop) : Prop where
  run : ∀ (pos : Pos) (pins : List (Addr × Obj)) (s : Shared) (σ : L2.St) (na : Option Addr) (F0 H0 F H : Hp) (Q : List V → Hp → Prop), Inv X pins σ H s → Cur na F0 H0 F H → Env1 X.K ρ σ na H0 F H → ExcOk X.K W R na F0 H0 →
    (∀ ds vs ρ' F' H', Cur na F0 H0 F' H' → Env1 X.K ρ' σ na H0 F' H' → Isl X.K ds vs F' → P ds ρ' → Q vs H') → wpAny (model X.prog X.w) X.A (spliced (backTo pos (starEach es X.env))) (AP X pins σ Q) X.xe s
/-- a test -/
structure WT (X : Cx) (W : WX) (R : RX) (e : Expr) (ρ : List Sl) (P : Bool → List Sl → Prop) : Prop where
  run : ∀ (pins : List (Addr × Obj)) (s : Shared) (σ : L2.St) (na : Option Addr) (F0 H0 F H : Hp) (Q : Bool → Hp → Prop), Inv X pins σ H s → Cur na F0 H0 F H → Env1 X.K ρ σ na H0 F H → ExcOk X.K W R na F0 H0 →
    (∀ b ρ' F' H', Cur na F0 H0 F' H' → Env1 X.K ρ' σ na H0 F' H' → P b ρ' → Q b H') → wpAny (model X.prog X.w) X.A (isTrue e X.env (eval e X.env)) (TP X pins σ Q) X.xe s
/-- and, or whatever its whole is -/
structure WW (X : Cx) (W : WX) (R : RX) (e : Expr) (ρ : List Sl) (P : Bool → List Sl → Prop) : Prop where
  run : ∀ (whole : Sem Value) (pins : List (Addr × Obj)) (s : Shared) (σ : L2.St) (na : Option Addr) (F0 H0 F H : Hp) (Q : Bool → Hp → Prop), Inv X pins σ H s → Cur na F0 H0 F H → Env1 X.K ρ σ na H0 F H → ExcOk X.K W R na F0 H0 →
    (∀ b ρ' F' H', Cur na F0 H0 F' H' → Env1 X.K ρ' σ na H0 F' H' → P b ρ' → Q b H') → wpAny (model X.prog X.w) X.A (isTrue e X.env whole) (TP X pins σ Q) X.xe s
/-- where a block may end -/
structure Kn where
  nx : List Sl → Prop
  rt : PD
  bk : List Sl → Prop := fun _ => False
  ct : List Sl → Prop := fun _ => False
  ro : List Dat → List Sl → Prop := fun _ _ => False
structure KnOk (K : PySem.W.Frag) (na : Option Addr) (F0 H0 : Hp) (k : Kn) (D : Ends) : Prop where
  nx : ∀ ρ σ F H, Cur na F0 H0 F H → Env1 K ρ σ na H0 F H → k.nx ρ → D.nx σ H
  rt : ∀ d v ρ σ F H, Cur na F0 H0 F H → Env1 K ρ σ na H0 F H → Is K d v F → k.rt d ρ → D.rt v H
  bk : ∀ ρ σ F H, Cur na F0 H0 F H → Env1 K ρ σ na H0 F H → k.bk ρ → D.bk σ H
  ct : ∀ ρ σ F H, Cur na F0 H0 F H → Env1 K ρ σ na H0 F H → k.ct ρ → D.ct σ H
  ro : ∀ ds a vs ρ σ F H, Cur na F0 H0 F H → Env1 K ρ σ na H0 F H → F a = none → H a = some (.lst vs) → H0 a = none → Isl K ds vs F → k.ro ds ρ → D.rt (.ref a) H
structure WS (X : Cx) (W : WX) (R : RX) (st : Stmt) (ρ : List Sl) (k : Kn) : Prop where
  run : ∀ (pins : List (Addr × Obj)) (s : Shared) (σ : L2.St) (na : Option Addr) (F0 H0 F H : Hp) (D : Ends), Inv X pins σ H s → Cur na F0 H0 F H → Env1 X.K ρ σ na H0 F H → ExcOk X.K W R na F0 H0 → KnOk X.K na F0 H0 k D →
    wpAny (model X.prog X.w) X.A (exec st X.env) (SP X pins D) X.xe s
structure WSs (X : Cx) (W : WX) (R : RX) (sts : List Stmt) (ρ : List Sl) (k : Kn) : Prop where
  run : ∀ (pins : List (Addr × Obj)) (s : Shared) (σ : L2.St) (na : Option Addr) (F0 H0 F H : Hp) (D : Ends), Inv X pins σ H s → Cur na F0 H0 F H → Env1 X.K ρ σ na H0 F H → ExcOk X.K W R na F0 H0 → KnOk X.K na F0 H0 k D →
    wpAny (model X.prog X.w) X.A (execs sts X.env) (SP X pins D) X.xe s

theorem ExcOk.re {K : PySem.W.Frag} {W : WX} {R : RX} {na : Option Addr} {F0 H0 F H : Hp} (x : ExcOk K W R na F0 H0) (c : Cur na F0 H0 F H) : ExcOk K W R na F H0 := fun C ρ σ F' H' c' n' r => x C ρ σ F' H' (c.back c') n' r
theorem KnOk.re {K : PySem.W.Frag} {k : Kn} {D : Ends} {na : Option Addr} {F0 H0 F H : Hp} (x : KnOk K na F0 H0 k D) (c : Cur na F0 H0 F H) : KnOk K na F H0 k D :=
  ⟨fun ρ σ F' H' c' => x.nx ρ σ F' H' (c.back c'), fun d v ρ σ F' H' c' => x.rt d v ρ σ F' H' (c.back c'), fun ρ σ F' H' c' => x.bk ρ σ F' H' (c.back c'), fun ρ σ F' H' c' => x.ct ρ σ F' H' (c.back c'), fun ds a vs ρ σ F' H' c' => x.ro ds a vs ρ σ F' H' (c.back c')⟩

/-! ### the universal readings: what a judgement says, as a reading -/
def tU (X : Cx) (W : WX) (e : Expr) : TE := fun σ H Q => ∃ ρ P R na F0 H0 F, WE X W R e ρ P ∧ Cur na F0 H0 F H ∧ Env1 X.K ρ σ na H0 F H ∧ ExcOk X.K W R na F0 H0 ∧
  ∀ d v ρ' F' H', Cur na F0 H0 F' H' → Env1 X.K ρ' σ na H0 F' H' → Is X.K d v F' → P d ρ' → Q v H'
def tUA (X : Cx) (W : WX) (es : List Expr) : TA := fun σ H Q => ∃ ρ P R na F0 H0 F, WA X W R es ρ P ∧ Cur na F0 H0 F H ∧ Env1 X.K ρ σ na H0 F H ∧ ExcOk X.K W R na F0 H0 ∧
  ∀ ds vs ρ' F' H', Cur na F0 H0 F' H' → Env1 X.K ρ' σ na H0 F' H' → Isl X.K ds vs F' → P ds ρ' → Q vs H'
def tUT (X : Cx) (W : WX) (e : Expr) : TT := fun σ H Q => ∃ ρ P R na F0 H0 F, WT X W R e ρ P ∧ Cur na F0 H0 F H ∧ Env1 X.K ρ σ na H0 F H ∧ ExcOk X.K W R na F0 H0 ∧
  ∀ b ρ' F' H', Cur na F0 H0 F' H' → Env1 X.K ρ' σ na H0 F' H' → P b ρ' → Q b H'
def tUW (X : Cx) (W : WX) (e : Expr) : TT := fun σ H Q => ∃ ρ P R na F0 H0 F, WW X W R e ρ P ∧ Cur na F0 H0 F H ∧ Env1 X.K ρ σ na H0 F H ∧ ExcOk X.K W R na F0 H0 ∧
  ∀ b ρ' F' H', Cur na F0 H0 F' H' → Env1 X.K ρ' σ na H0 F' H' → P b ρ' → Q b H'
def tUS (X : Cx) (W : WX) (st : Stmt) : TS := fun D σ H => ∃ ρ k R na F0 H0 F, WS X W R st ρ k ∧ Cur na F0 H0 F H ∧ Env1 X.K ρ σ na H0 F H ∧ ExcOk X.K W R na F0 H0 ∧ KnOk X.K na F0 H0 k D
def tUSs (X : Cx) (W : WX) (sts : List Stmt) : TS := fun D σ H => ∃ ρ k R na F0 H0 F, WSs X W R sts ρ k ∧ Cur na F0 H0 F H ∧ Env1 X.K ρ σ na H0 F H ∧ ExcOk X.K W R na F0 H0 ∧ KnOk X.K na F0 H0 k D
section
variable {X : Cx} {W : WX} {R : RX} {e a b : Expr} {es : List Expr} {st : Stmt} {sts : List Stmt} {ρ : List Sl} {P : PD} {k : Kn}
theorem pe_U : PE X e (tU X W e) := ⟨fun pins s σ H Q I ⟨ρ, P, R, na, F0, H0, F, w, c, n, x, q⟩ => w.run pins s σ na F0 H0 F H Q I c n x q⟩
theorem pa_U : PA X es (tUA X W es) := ⟨fun pos pins s σ H Q I ⟨ρ, P, R, na, F0, H0, F, w, c, n, x, q⟩ => w.run pos pins s σ na F0 H0 F H Q I c n x q⟩
theorem pt_U : PT X e (tUT X W e) := ⟨fun pins s σ H Q I ⟨ρ, P, R, na, F0, H0, F, w, c, n, x, q⟩ => w.run pins s σ na F0 H0 F H Q I c n x q⟩
theorem pw_U : PW X e (tUW X W e) := ⟨fun wh pins s σ H Q I ⟨ρ, P, R, na, F0, H0, F, w, c, n, x, q⟩ => w.run wh pins s σ na F0 H0 F H Q I c n x q⟩
theorem ps_U : PS X st (tUS X W st) := ⟨fun pins s σ H D I ⟨ρ, P, R, na, F0, H0, F, w, c, n, x, q⟩ => w.run pins s σ na F0 H0 F H D I c n x q⟩
theorem pss_U : PSs X sts (tUSs X W sts) := ⟨fun pins s σ H D I ⟨ρ, P, R, na, F0, H0, F, w, c, n, x, q⟩ => w.run pins s σ na F0 H0 F H D I c n x q⟩
theorem WE.of {t : TE} (h : PE X e t) (ht : ∀ σ na F0 H0 F H (Q : VK), Cur na F0 H0 F H → Env1 X.K ρ σ na H0 F H → ExcOk X.K W R na F0 H0 →
    (∀ d v ρ' F' H', Cur na F0 H0 F' H' → Env1 X.K ρ' σ na H0 F' H' → Is X.K d v F' → P d ρ' → Q v H') → t σ H Q) : WE X W R e ρ P :=
  ⟨fun pins s σ na F0 H0 F H Q I c n x q => h.run pins s σ H Q I (ht σ na F0 H0 F H Q c n x q)⟩
theorem WA.of {t : TA} {P : List Dat → List Sl → Prop} (h : PA X es t) (ht : ∀ σ na F0 H0 F H (Q : List V → Hp → Prop), Cur na F0 H0 F H → Env1 X.K ρ σ na H0 F H → ExcOk X.K W R na F0 H0 →
    (∀ ds vs ρ' F' H', Cur na F0 H0 F' H' → Env1 X.K ρ' σ na H0 F' H' → Isl X.K ds vs F' → P ds ρ' → Q vs H') → t σ H Q) : WA X W R es ρ P :=
  ⟨fun pos pins s σ na F0 H0 F H Q I c n x q => h.run pos pins s σ H Q I (ht σ na F0 H0 F H Q c n x q)⟩
theorem WT.of {t : TT} {P : Bool → List Sl → Prop} (h : PT X e t) (ht : ∀ σ na F0 H0 F H (Q : Bool → Hp → Prop), Cur na F0 H0 F H → Env1 X.K ρ σ na H0 F H → ExcOk X.K W R na F0 H0 →
    (∀ b ρ' F' H', Cur na F0 H0 F' H' → Env1 X.K ρ' σ na H0 F' H' → P b ρ' → Q b H') → t σ H Q) : WT X W R e ρ P :=
  ⟨fun pins s σ na F0 H0 F H Q I c n x q => h.run pins s σ H Q I (ht σ na F0 H0 F H Q c n x q)⟩
theorem WW.of {t : TT} {P : Bool → List Sl → Prop} (h : PW X e t) (ht : ∀ σ na F0 H0 F H (Q : Bool → Hp → Prop), Cur na F0 H0 F H → Env1 X.K ρ σ na H0 F H → ExcOk X.K W R na F0 H0 →
    (∀ b ρ' F' H', Cur na F0 H0 F' H' → Env1 X.K ρ' σ na H0 F' H' → P b ρ' → Q b H') → t σ H Q) : WW X W R e ρ P :=
  ⟨fun wh pins s σ na F0 H0 F H Q I c n x q => h.run wh pins s σ H Q I (ht σ na F0 H0 F H Q c n x q)⟩
theorem WS.of {t : TS} (h : PS X st t) (ht : ∀ σ na F0 H0 F H (D : Ends), Cur na F0 H0 F H → Env1 X.K ρ σ na H0 F H → ExcOk X.K W R na F0 H0 → KnOk X.K na F0 H0 k D → t D σ H) : WS X W R st ρ k :=
  ⟨fun pins s σ na F0 H0 F H D I c n x q => h.run pins s σ H D I (ht σ na F0 H0 F H D c n x q)⟩
theorem WSs.of {t : TS} (h : PSs X sts t) (ht : ∀ σ na F0 H0 F H (D : Ends), Cur na F0 H0 F H → Env1 X.K ρ σ na H0 F H → ExcOk X.K W R na F0 H0 → KnOk X.K na F0 H0 k D → t D σ H) : WSs X W R sts ρ k :=
  ⟨fun pins s σ na F0 H0 F H D I c n x q => h.run pins s σ H D I (ht σ na F0 H0 F H D c n x q)⟩
theorem WW.wt {P : Bool → List Sl → Prop} (h : WW X W R e ρ P) : WT X W R e ρ P := ⟨h.run _⟩
theorem WE.imp {P' : PD} (h : WE X W R e ρ P) (i : ∀ d ρ', P d ρ' → P' d ρ') : WE X W R e ρ P' :=
  ⟨fun pins s σ na F0 H0 F H Q I c n x q => h.run pins s σ na F0 H0 F H Q I c n x fun d v ρ' F' H' c' n' hd p => q d v ρ' F' H' c' n' hd (i d ρ' p)⟩
end
end Sf
namespace Sf
open PySem L2

/-! ### names and constants -/
section
variable {X : Cx} {W : WX} {R : RX} {e a b c : Expr} {es : List Expr} {st : Stmt} {sts rest : List Stmt} {ρ : List Sl} {P : PD} {k : Kn} {pos pos' : Pos}
theorem we_var (i : Nat) {x : Str} {d : Dat} (h : ρ[i]? = some (.pu d)) (hp : P d ρ) (hN : X.N[i]? = some x := by rfl) (hv : Vis X.env.scope x := by first | exact Or.inl rfl | exact Or.inr (Or.inl rfl) | exact Or.inr (Or.inr rfl)) (hd : (x == ("__debug__" : Str)) = false := by decide)
    (hcd : (x == ("__classdict__" : Str)) = false := by decide) : WE X W R (.Name x pos) ρ P :=
  .of (pe_var hN hv hd hcd) fun σ na F0 H0 F H Q c n x q => let ⟨v, h1, h2⟩ := n.pu i d h; ⟨v, h1, q d v ρ F H c n h2 hp⟩
theorem we_int {i : Int} {j : Nat} (hp : P (dI i) ρ) : WE X W R (.Constant (.int i) j pos) ρ P := .of pe_int fun σ na F0 H0 F H Q c n x q => q _ _ ρ F H c n .v hp
theorem we_bl {b : Bool} {j : Nat} (hp : P (dB b) ρ) : WE X W R (.Constant (.bool b) j pos) ρ P := .of pe_bl fun σ na F0 H0 F H Q c n x q => q _ _ ρ F H c n .v hp
theorem we_non {j : Nat} (hp : P dN ρ) : WE X W R (.Constant .none j pos) ρ P := .of pe_non fun σ na F0 H0 F H Q c n x q => q _ _ ρ F H c n .v hp
theorem we_str {z : Str} {j : Nat} (hp : P (dS z) ρ) : WE X W R (.Constant (.str z) j pos) ρ P := .of pe_str fun σ na F0 H0 F H Q c n x q => q _ _ ρ F H c n .v hp
theorem we_glob {x : Str} {v : V} {u : Value} (hm : X.mg x = some u) (r : RelV v u) (hp : P (.v v) ρ) (hg : Gl X x := by rfl) (hd : (x == ("__debug__" : Str)) = false := by decide) : WE X W R (.Name x pos) ρ P :=
  .of (pe_glob hg hm r hd) fun σ na F0 H0 F H Q c n x q => q _ _ ρ F H c n .v hp
/-- a tuple of the module's own -/
theorem we_globT {x : Str} {p : Addr} {ds : List Dat} {vs : List V} (hm : X.mg x = some (.ref p)) (ht : ∀ H, SqT X.K H p vs) (hd : ∀ F, Isl X.K ds vs F) (hp : P (.tup ds) ρ) (hg : Gl X x := by rfl) (hdb : (x == ("__debug__" : Str)) = false := by decide) : WE X W R (.Name x pos) ρ P :=
  .of (pe_glob (v := .ref p) hg hm rfl hdb) fun σ na F0 H0 F H Q c n x q => q _ _ ρ F H c n (.tup (ht F) (hd F)) hp

/-! ### two-place operations -/
structure OpD (X : Cx) (W : WX) (R : RX) (f : Value → Value → Sem Value) (d1 d2 : Dat) (ρ : List Sl) (P : PD) : Prop where
  run : ∀ (pins : List (Addr × Obj)) (s : Shared) (σ : L2.St) (na : Option Addr) (F0 H0 F H : Hp) (x y : V) (v u : Value) (Q : VK), Inv X pins σ H s → Cur na F0 H0 F H → Env1 X.K ρ σ na H0 F H → ExcOk X.K W R na F0 H0 → Is X.K d1 x F → Is X.K d2 y F → RelV x v → RelV y u →
    (∀ d v ρ' F' H', Cur na F0 H0 F' H' → Env1 X.K ρ' σ na H0 F' H' → Is X.K d v F' → P d ρ' → Q v H') → wpAny (model X.prog X.w) X.A (f v u) (EP X pins σ Q) X.xe s
/-- a then b, then an operation -/
theorem two {f : Value → Value → Sem Value} (h : WE X W R a ρ fun d1 ρ1 => WE X W R b ρ1 fun d2 ρ2 => OpD X W R f d1 d2 ρ2 P) {pins : List (Addr × Obj)} {s : Shared} {σ : L2.St} {na : Option Addr} {F0 H0 F H : Hp} {Q : VK}
    (I : Inv X pins σ H s) (c : Cur na F0 H0 F H) (n : Env1 X.K ρ σ na H0 F H) (x : ExcOk X.K W R na F0 H0) (q : ∀ d v ρ' F' H', Cur na F0 H0 F' H' → Env1 X.K ρ' σ na H0 F' H' → Is X.K d v F' → P d ρ' → Q v H') :
    wpAny (model X.prog X.w) X.A (eval a X.env) (fun v s₁ => wpAny (model X.prog X.w) X.A (eval b X.env) (fun u s₂ => wpAny (model X.prog X.w) X.A (f v u) (EP X pins σ Q) X.xe s₂) X.xe s₁) X.xe s := by
  refine thn (h.run pins s σ na F0 H0 F H (fun x H1 => ∃ d1 ρ1 F1, Cur na F0 H0 F1 H1 ∧ Env1 X.K ρ1 σ na H0 F1 H1 ∧ Is X.K d1 x F1 ∧ WE X W R b ρ1 fun d2 ρ2 => OpD X W R f d1 d2 ρ2 P) I c n x fun d v ρ' F' H' c' n' hd p => ⟨d, ρ', F', c', n', hd, p⟩) fun v s1 ⟨x1, H1, I1, r1, d1, ρ1, F1, c1, n1, h1, p1⟩ => ?_
  refine thn (p1.run pins s1 σ na F1 H0 F1 H1 (fun y H2 => ∃ d2 ρ2 F2, Cur na F1 H0 F2 H2 ∧ Env1 X.K ρ2 σ na H0 F2 H2 ∧ Is X.K d2 y F2 ∧ OpD X W R f d1 d2 ρ2 P) I1 c1.re n1 (x.re c1) fun d v ρ' F' H' c' n' hd p => ⟨d, ρ', F', c', n', hd, p⟩) fun u s2 ⟨y, H2, I2, r2, d2, ρ2, F2, c2, n2, h2, p2⟩ => ?_
  exact p2.run pins s2 σ na F0 H0 F2 H2 x1 y v u Q I2 (c1.back c2) n2 x (h1.mono c2.ff) h2 r1 r2 q
theorem we_bin {op : Operator} (h : WE X W R a ρ fun d1 ρ1 => WE X W R b ρ1 fun d2 ρ2 => OpD X W R (binaryOp op) d1 d2 ρ2 P) : WE X W R (.BinOp a op b pos) ρ P :=
  ⟨fun pins s σ na F0 H0 F H Q I c n x q => wpAny_BinOp (two h I c n x q)⟩
theorem we_cmp {op : CmpOp} (h : WE X W R a ρ fun d1 ρ1 => WE X W R b ρ1 fun d2 ρ2 => OpD X W R (compareOp op) d1 d2 ρ2 P) (hm : behindInMarks op b = false := by first | exact nomark _ (by decide) (by decide) | rfl) : WE X W R (.Compare a [op] [b] pos) ρ P :=
  ⟨fun pins s σ na F0 H0 F H Q I c n x q => wpAny_Compare1 (two h I c n x q) hm⟩
theorem wt_cmp {op : CmpOp} {P : Bool → List Sl → Prop} (h : WE X W R a ρ fun d1 ρ1 => WE X W R b ρ1 fun d2 ρ2 => OpD X W R (compareOp op) d1 d2 ρ2 fun d ρ' => ∃ t, d = dB t ∧ P t ρ') (hm : behindInMarks op b = false := by first | exact nomark _ (by decide) (by decide) | rfl) : WT X W R (.Compare a [op] [b] pos) ρ P := by
  refine ⟨fun pins s σ na F0 H0 F H Q I c n x q => ?_⟩
  have q' : ∀ d v ρ' F' H', Cur na F0 H0 F' H' → Env1 X.K ρ' σ na H0 F' H' → Is X.K d v F' → (∃ t, d = dB t ∧ P t ρ') → ∃ t, v = .bl t ∧ Q t H' := fun d v ρ' F' H' c' n' hd ⟨t, e, p⟩ => by
    subst e
    exact ⟨t, is_v hd, q t ρ' F' H' c' n' p⟩
  refine wpAny_isTrue_Compare1 (wpAny_mono (two h I c n x (Q := fun v H' => ∃ t, v = .bl t ∧ Q t H') q') (fun v s1 z => wpAny_mono z (fun u s2 z => wpAny_mono z (fun w' s3 z => ?_) fun _ _ x => x) fun _ _ x => x) fun _ _ x => x) hm
  obtain ⟨v3, H3, I3, r3, t, e, qq⟩ := z
  subst e
  cases r3
  exact wpAny_truthy_bool ⟨H3, I3, qq⟩
/-- an operation of the layer's own on values -/
theorem OpD.of {f : Value → Value → Sem Value} {r : R2} {d1 d2 : Dat} (ho : OpR X f r) (h : ∀ x y F H (Q : VK), Ex F H → Is X.K d1 x F → Is X.K d2 y F → (∀ d v F' H', Stp F H F' H' → Is X.K d v F' → P d ρ → Q v H') → r x y H Q) : OpD X W R f d1 d2 ρ P :=
  ⟨fun pins s σ na F0 H0 F H x y v u Q I c n _ h1 h2 r1 r2 q => ho pins s σ H x y v u Q I r1 r2 (h x y F H Q c.fh h1 h2 fun d v F' H' st hd p => q d v ρ F' H' (c.stp st) (n.stp st) hd p)⟩
theorem od_I0 {f : Value → Value → Sem Value} {g : Int → Int → V} {i j : Int} (ho : OpR X f (rI0 g)) (p : P (.v (g i j)) ρ) : OpD X W R f (dI i) (dI j) ρ P :=
  .of ho fun x y F H Q e h1 h2 q => ⟨i, j, is_v h1, is_v h2, q _ _ F H (.refl e) .v p⟩
theorem od_I {f : Value → Value → Sem Value} {C : Int → Int → Prop} {g : Int → Int → V} {i j : Int} (ho : OpR X f (rI C g)) (hc : C i j) (p : P (.v (g i j)) ρ) : OpD X W R f (dI i) (dI j) ρ P :=
  .of ho fun x y F H Q e h1 h2 q => ⟨i, j, is_v h1, is_v h2, hc, q _ _ F H (.refl e) .v p⟩
theorem od_add {i j : Int} (p : P (dI (i + j)) ρ) : OpD X W R (binaryOp .Add) (dI i) (dI j) ρ P := od_I0 op_add p
theorem od_sub {i j : Int} (p : P (dI (i - j)) ρ) : OpD X W R (binaryOp .Sub) (dI i) (dI j) ρ P := od_I0 op_sub p
theorem od_mulB {i j : Int} (hc : CMul i j) (p : P (dI (i * j)) ρ) : OpD X W R (binaryOp .Mult) (dI i) (dI j) ρ P := od_I op_mul hc p
theorem od_mod {i j : Int} (hc : 0 < j) (p : P (dI (i % j)) ρ) : OpD X W R (binaryOp .Mod) (dI i) (dI j) ρ P := od_I op_mod hc p
theorem od_modN {i j : Int} (hc : j ≠ 0) (p : P (dI (i.fmod j)) ρ) : OpD X W R (binaryOp .Mod) (dI i) (dI j) ρ P := od_I op_modN hc p
theorem od_div {i j : Int} (hc : CDiv i j) (p : P (dI (i / j)) ρ) : OpD X W R (binaryOp .FloorDiv) (dI i) (dI j) ρ P := od_I op_fdiv hc p
theorem od_lt {i j : Int} (p : P (dB (decide (i < j))) ρ) : OpD X W R (compareOp .Lt) (dI i) (dI j) ρ P := od_I0 op_lt p
theorem od_le {i j : Int} (p : P (dB (decide (i ≤ j))) ρ) : OpD X W R (compareOp .LtE) (dI i) (dI j) ρ P := od_I0 op_le p
theorem od_gt {i j : Int} (p : P (dB (decide (j < i))) ρ) : OpD X W R (compareOp .Gt) (dI i) (dI j) ρ P := od_I0 op_gt p
theorem od_ge {i j : Int} (p : P (dB (decide (j ≤ i))) ρ) : OpD X W R (compareOp .GtE) (dI i) (dI j) ρ P := od_I0 op_ge p
theorem od_eq {x y : V} (hs : scal x y = true) (p : P (dB (decide (x = y))) ρ) : OpD X W R (compareOp .Eq) (.v x) (.v y) ρ P :=
  .of op_eq fun x' y' F H Q e h1 h2 q => by cases is_v h1; cases is_v h2; exact ⟨hs, q _ _ F H (.refl e) .v p⟩
theorem od_ne {x y : V} (hs : scal x y = true) (p : P (dB (!decide (x = y))) ρ) : OpD X W R (compareOp .NotEq) (.v x) (.v y) ρ P :=
  .of op_ne fun x' y' F H Q e h1 h2 q => by cases is_v h1; cases is_v h2; exact ⟨hs, q _ _ F H (.refl e) .v p⟩
theorem int_eq {i j : Int} : decide (V.int i = V.int j) = decide (i = j) := by
  by_cases h : i = j
  · subst h; simp
  · rw [decide_eq_false h, decide_eq_false (fun z => h (V.int.inj z))]
theorem od_eqI {i j : Int} (p : P (dB (decide (i = j))) ρ) : OpD X W R (compareOp .Eq) (dI i) (dI j) ρ P := od_eq rfl (by rw [int_eq]; exact p)
theorem od_neI {i j : Int} (p : P (dB (!decide (i = j))) ρ) : OpD X W R (compareOp .NotEq) (dI i) (dI j) ρ P := od_ne rfl (by rw [int_eq]; exact p)
theorem od_isN {x : Dat} {bb : Bool} (hb : ∀ v F, Is X.K x v F → decide (v = .non) = bb) (p : P (dB bb) ρ) : OpD X W R (compareOp .Is) x dN ρ P :=
  .of op_isN fun x' y' F H Q e h1 h2 q => ⟨is_v h2, by rw [hb x' F h1]; exact q _ _ F H (.refl e) .v p⟩
theorem od_notN {x : Dat} {bb : Bool} (hb : ∀ v F, Is X.K x v F → decide (v = .non) = bb) (p : P (dB (!bb)) ρ) : OpD X W R (compareOp .IsNot) x dN ρ P :=
  .of op_notN fun x' y' F H Q e h1 h2 q => ⟨is_v h2, by rw [hb x' F h1]; exact q _ _ F H (.refl e) .v p⟩

/-! ### one-place -/
theorem we_neg (h : WE X W R a ρ fun d ρ' => ∃ i, d = dI i ∧ P (dI (-i)) ρ') : WE X W R (.UnaryOp .USub a pos) ρ P :=
  .of (pe_un un_neg (pe_U (W := W))) fun σ na F0 H0 F H Q c n x q => ⟨ρ, _, R, na, F0, H0, F, h, c, n, x, fun d v ρ' F' H' c' n' hd ⟨i, e, p⟩ => by
    subst e; exact ⟨i, is_v hd, q _ _ ρ' F' H' c' n' .v p⟩⟩
theorem we_not (h : WE X W R a ρ fun d ρ' => ∃ t, d = dB t ∧ P (dB (!t)) ρ') : WE X W R (.UnaryOp .Not a pos) ρ P :=
  .of (pe_not (pe_U (W := W))) fun σ na F0 H0 F H Q c n x q => ⟨ρ, _, R, na, F0, H0, F, h, c, n, x, fun d v ρ' F' H' c' n' hd ⟨t, e, p⟩ => by
    subst e; exact ⟨t, is_v hd, q _ _ ρ' F' H' c' n' .v p⟩⟩

/-! ### tests -/
variable {PT : Bool → List Sl → Prop}
theorem wt_val (h : WE X W R e ρ fun d ρ' => ∃ t, d = dB t ∧ PT t ρ') (he : ∀ whole, isTrue e X.env whole = (do let v ← whole; standAt e.pos; holding [v] (truthy v)) := by intro _; rfl) : WT X W R e ρ PT :=
  .of (pt_val (pe_U (W := W)) he) fun σ na F0 H0 F H Q c n x q => ⟨ρ, _, R, na, F0, H0, F, h, c, n, x, fun d v ρ' F' H' c' n' hd ⟨t, e, p⟩ => by
    subst e; exact ⟨t, is_v hd, q t ρ' F' H' c' n' p⟩⟩
theorem wt_not (h : WT X W R a ρ fun t ρ' => PT (!t) ρ') : WT X W R (.UnaryOp .Not a pos) ρ PT :=
  .of (pt_not (pt_U (W := W))) fun σ na F0 H0 F H Q c n x q => ⟨ρ, _, R, na, F0, H0, F, h, c, n, x, fun t ρ' F' H' c' n' p => q _ ρ' F' H' c' n' p⟩
theorem ww_and1 (h : WT X W R a ρ PT) : WW X W R (.BoolOp .And [a] pos) ρ PT := .of (pw_and1 (pt_U (W := W))) fun σ na F0 H0 F H Q c n x q => ⟨ρ, _, R, na, F0, H0, F, h, c, n, x, q⟩
theorem ww_or1 (h : WT X W R a ρ PT) : WW X W R (.BoolOp .Or [a] pos) ρ PT := .of (pw_or1 (pt_U (W := W))) fun σ na F0 H0 F H Q c n x q => ⟨ρ, _, R, na, F0, H0, F, h, c, n, x, q⟩
theorem ww_and {es : List Expr} (h : WT X W R a ρ fun t ρ' => (t = true → WW X W R (.BoolOp .And (b :: es) pos) ρ' PT) ∧ (t = false → PT false ρ')) : WW X W R (.BoolOp .And (a :: b :: es) pos) ρ PT :=
  .of (pw_and (pt_U (W := W)) (pw_U (W := W))) fun σ na F0 H0 F H Q c n x q => ⟨ρ, _, R, na, F0, H0, F, h, c, n, x, fun t ρ' F' H' c' n' p => by
    cases t with
    | true => exact iteT ⟨ρ', _, R, na, F0, H0, F', p.1 rfl, c', n', x, q⟩
    | false => exact iteF (q _ ρ' F' H' c' n' (p.2 rfl))⟩
theorem ww_or {es : List Expr} (h : WT X W R a ρ fun t ρ' => (t = false → WW X W R (.BoolOp .Or (b :: es) pos) ρ' PT) ∧ (t = true → PT true ρ')) : WW X W R (.BoolOp .Or (a :: b :: es) pos) ρ PT :=
  .of (pw_or (pt_U (W := W)) (pw_U (W := W))) fun σ na F0 H0 F H Q c n x q => ⟨ρ, _, R, na, F0, H0, F, h, c, n, x, fun t ρ' F' H' c' n' p => by
    cases t with
    | true => exact iteT (q _ ρ' F' H' c' n' (p.2 rfl))
    | false => exact iteF ⟨ρ', _, R, na, F0, H0, F', p.1 rfl, c', n', x, q⟩⟩
/-- and, or as values, all but the last True or False -/
theorem we_and {es : List Expr} (h : WE X W R a ρ fun d ρ' => ∃ t, d = dB t ∧ (t = true → WE X W R (.BoolOp .And (b :: es) pos) ρ' P) ∧ (t = false → P (dB false) ρ')) : WE X W R (.BoolOp .And (a :: b :: es) pos) ρ P :=
  .of (pe_and (pe_U (W := W)) (pe_U (W := W))) fun σ na F0 H0 F H Q c n x q => ⟨ρ, _, R, na, F0, H0, F, h, c, n, x, fun d v ρ' F' H' c' n' hd ⟨t, e, p⟩ => by
    subst e
    cases t with
    | true => exact ⟨true, is_v hd, iteT ⟨ρ', _, R, na, F0, H0, F', p.1 rfl, c', n', x, q⟩⟩
    | false => exact ⟨false, is_v hd, iteF (q _ _ ρ' F' H' c' n' .v (p.2 rfl))⟩⟩
theorem we_or {es : List Expr} (h : WE X W R a ρ fun d ρ' => ∃ t, d = dB t ∧ (t = false → WE X W R (.BoolOp .Or (b :: es) pos) ρ' P) ∧ (t = true → P (dB true) ρ')) : WE X W R (.BoolOp .Or (a :: b :: es) pos) ρ P :=
  .of (pe_or (pe_U (W := W)) (pe_U (W := W))) fun σ na F0 H0 F H Q c n x q => ⟨ρ, _, R, na, F0, H0, F, h, c, n, x, fun d v ρ' F' H' c' n' hd ⟨t, e, p⟩ => by
    subst e
    cases t with
    | true => exact ⟨true, is_v hd, iteT (q _ _ ρ' F' H' c' n' .v (p.2 rfl))⟩
    | false => exact ⟨false, is_v hd, iteF ⟨ρ', _, R, na, F0, H0, F', p.1 rfl, c', n', x, q⟩⟩⟩
theorem we_last {op : BoolOp} (h : WE X W R a ρ P) : WE X W R (.BoolOp op [a] pos) ρ P :=
  .of (pe_one (pe_U (W := W))) fun σ na F0 H0 F H Q c n x q => ⟨ρ, _, R, na, F0, H0, F, h, c, n, x, q⟩
theorem we_ifx {t : Expr} (h : WT X W R t ρ fun r ρ' => (r = true → WE X W R a ρ' P) ∧ (r = false → WE X W R b ρ' P)) : WE X W R (.IfExp t a b pos) ρ P :=
  .of (pe_ifExp (pt_U (W := W)) (pe_U (W := W)) (pe_U (W := W))) fun σ na F0 H0 F H Q c n x q => ⟨ρ, _, R, na, F0, H0, F, h, c, n, x, fun r ρ' F' H' c' n' p => by
    cases r with
    | true => exact iteT ⟨ρ', _, R, na, F0, H0, F', p.1 rfl, c', n', x, q⟩
    | false => exact iteF ⟨ρ', _, R, na, F0, H0, F', p.2 rfl, c', n', x, q⟩⟩

/-! ### fields -/
def look (ks : List Str) (ds : List Dat) (f : Str) : Option Dat := (ks.zip ds).lookup f
theorem look_v {K : PySem.W.Frag} {F : Hp} {f : Str} : ∀ {ks : List Str} {ds : List Dat} {vs : List V} {d : Dat}, Isl K ds vs F → look ks ds f = some d → ∃ v, (ks.zip vs).lookup f = some v ∧ Is K d v F
  | [], _, _, _, _, h => by simp [look] at h
  | _ :: _, _, _, _, .nil, h => by simp [look] at h
  | g :: ks, _, _, d, .cons (d := d') (x := x') a b, h => by
    unfold look at h
    rw [List.zip_cons_cons, List.lookup_cons] at h ⊢
    cases e : (f == g) with
    | true => rw [e] at h; cases h; exact ⟨x', rfl, a⟩
    | false => rw [e] at h; exact look_v b h
theorem we_fld {f : Str} (h : WE X W R e ρ fun d ρ' => ∃ C ks ds d', d = .ins C ks ds ∧ Cls X.K C ∧ NoAttr X.K C f ∧ look ks ds f = some d' ∧ P d' ρ') (hb : attributeBase e f X.env (eval e X.env) = eval e X.env := by rfl) : WE X W R (.Attribute e f pos) ρ P :=
  .of (pe_fld (pe_U (W := W)) hb) fun σ na F0 H0 F H Q c n x q => ⟨ρ, _, R, na, F0, H0, F, h, c, n, x, fun d v ρ' F' H' c' n' hd ⟨C, ks, ds, d', e, hc, hn, hl, p⟩ => by
    subst e
    cases hd with
    | ins ha hz hs =>
      obtain ⟨v', h1, h2⟩ := look_v hs hl
      exact ⟨_, C, _, _, v', rfl, c'.fh _ _ ha, hc, hn, h1, q _ _ ρ' F' H' c' n' h2 p⟩⟩

/-! ### arguments, displays -/
theorem wa_nil {P : List Dat → List Sl → Prop} (p : P [] ρ) : WA X W R [] ρ P := .of pa_nil fun σ na F0 H0 F H Q c n x q => q [] [] ρ F H c n .nil p
theorem wa_cons {P : List Dat → List Sl → Prop} (h : WE X W R e ρ fun d ρ' => WA X W R es ρ' fun ds ρ'' => P (d :: ds) ρ'') (hs : starEach (e :: es) X.env = (false, eval e X.env) :: starEach es X.env := by rfl) : WA X W R (e :: es) ρ P :=
  .of (pa_cons (pe_U (W := W)) (pa_U (W := W)) hs) fun σ na F0 H0 F H Q c n x q => ⟨ρ, _, R, na, F0, H0, F, h, c, n, x, fun d v ρ' F' H' c' n' hd p =>
    ⟨ρ', _, R, na, F', H0, F', p, c'.re, n', x.re c', fun ds vs ρ'' F'' H'' c'' n'' hds p' => q (d :: ds) (v :: vs) ρ'' F'' H'' (c'.back c'') n'' (.cons (hd.mono c''.ff) hds) p'⟩⟩
theorem we_tup {x1} (h : WA X W R es ρ fun ds ρ' => ds.length ≤ 100000 ∧ P (.tup ds) ρ') : WE X W R (.Tuple es x1 pos) ρ P :=
  .of (pe_tup (pa_U (W := W))) fun σ na F0 H0 F H Q c n x q => ⟨ρ, _, R, na, F0, H0, F, h, c, n, x, fun ds vs ρ' F' H' c' n' hd ⟨hl, p⟩ =>
    ⟨by rw [← hd.length]; exact Nat.le_trans hl (by decide), fun a ha => by
      have st := Stp.new (o := .tup vs) c'.fh ha
      exact q (.tup ds) (.ref a) ρ' _ _ (c'.stp st) (n'.stp st) (.tup (.inl (.inl upd_same)) (hd.mono st.ff)) p⟩⟩
theorem we_lst (h : WA X W R es ρ fun ds ρ' => ds.length ≤ 100000 ∧ P (.lst ds) ρ') : WE X W R (.List es pos) ρ P :=
  .of (pe_lst (pa_U (W := W))) fun σ na F0 H0 F H Q c n x q => ⟨ρ, _, R, na, F0, H0, F, h, c, n, x, fun ds vs ρ' F' H' c' n' hd ⟨hl, p⟩ =>
    ⟨by rw [← hd.length]; exact Nat.le_trans hl (by decide), fun a ha => by
      have st := Stp.new (o := .lst vs) c'.fh ha
      exact q (.lst ds) (.ref a) ρ' _ _ (c'.stp st) (n'.stp st) (.lst (.inl (.inl upd_same)) (hd.mono st.ff)) p⟩⟩
/-- a builtin's call -/
theorem we_cb {id : String} {x : Str} {p : Pos} {r : List V → Hp → VK → Prop} (hc : CallR X (.builtin id) r) (hm : X.mg x = none) (hv : bootBuiltins x = some (.builtin id))
    (h : WA X W R (e :: es) ρ fun ds ρ' => ∀ vs F H (Q : VK), Ex F H → Isl X.K ds vs F → (∀ d v F' H', Stp F H F' H' → Is X.K d v F' → P d ρ' → Q v H') → r vs H Q) (hg : Gl X x := by rfl) (hn : x ≠ "__name__" := by decide) (hdb : (x == ("__debug__" : Str)) = false := by decide)
    (he : starEach (e :: es) X.env = (false, eval e X.env) :: starEach es X.env := by rfl) (hpl : (backTo pos (starEach es X.env)).any (·.1) = false := by rfl) : WE X W R (.Call (.Name x p) (e :: es) [] pos) ρ P :=
  .of (pe_callB hc hg hm hv (pa_U (W := W)) hn hdb he hpl) fun σ na F0 H0 F H Q c n x q => ⟨ρ, _, R, na, F0, H0, F, h, c, n, x, fun ds vs ρ' F' H' c' n' hd p =>
    p vs F' H' Q c'.fh hd fun d v F'' H'' st hd' p' => q d v ρ' F'' H'' (c'.stp st) (n'.stp st) hd' p'⟩
theorem we_ct {T : String} {x : Str} {p : Pos} {r : List V → Hp → VK → Prop} (hc : CallR X (.type T) r) (hm : X.mg x = none) (hv : bootBuiltins x = some (.type T))
    (h : WA X W R (e :: es) ρ fun ds ρ' => ∀ vs F H (Q : VK), Ex F H → Isl X.K ds vs F → (∀ d v F' H', Stp F H F' H' → Is X.K d v F' → P d ρ' → Q v H') → r vs H Q) (hg : Gl X x := by rfl) (hn : x ≠ "__name__" := by decide) (hdb : (x == ("__debug__" : Str)) = false := by decide)
    (he : starEach (e :: es) X.env = (false, eval e X.env) :: starEach es X.env := by rfl) (hpl : (backTo pos (starEach es X.env)).any (·.1) = false := by rfl) : WE X W R (.Call (.Name x p) (e :: es) [] pos) ρ P :=
  .of (pe_callTy hc hg hm hv (pa_U (W := W)) hn hdb he hpl) fun σ na F0 H0 F H Q c n x q => ⟨ρ, _, R, na, F0, H0, F, h, c, n, x, fun ds vs ρ' F' H' c' n' hd p =>
    p vs F' H' Q c'.fh hd fun d v F'' H'' st hd' p' => q d v ρ' F'' H'' (c'.stp st) (n'.stp st) hd' p'⟩
/-- .. by a name that the module imports -/
theorem we_cbf {id : String} {x : Str} {p : Pos} {r : List V → Hp → VK → Prop} (hc : CallR X (.builtin id) r) (hm : X.mg x = some (.builtin id))
    (h : WA X W R (e :: es) ρ fun ds ρ' => ∀ vs F H (Q : VK), Ex F H → Isl X.K ds vs F → (∀ d v F' H', Stp F H F' H' → Is X.K d v F' → P d ρ' → Q v H') → r vs H Q) (hg : Gl X x := by rfl) (hdb : (x == ("__debug__" : Str)) = false := by decide)
    (he : starEach (e :: es) X.env = (false, eval e X.env) :: starEach es X.env := by rfl) (hpl : (backTo pos (starEach es X.env)).any (·.1) = false := by rfl) : WE X W R (.Call (.Name x p) (e :: es) [] pos) ρ P :=
  .of (pe_callBfun hc hg hm (pa_U (W := W)) hdb he hpl) fun σ na F0 H0 F H Q c n x q => ⟨ρ, _, R, na, F0, H0, F, h, c, n, x, fun ds vs ρ' F' H' c' n' hd p =>
    p vs F' H' Q c'.fh hd fun d v F'' H'' st hd' p' => q d v ρ' F'' H'' (c'.stp st) (n'.stp st) hd' p'⟩

/-! ### statements -/
theorem wss_nil (p : k.nx ρ) : WSs X W R [] ρ k := .of pss_nil fun σ na F0 H0 F H D c n x q => q.nx ρ σ F H c n p
theorem wss_cons (h : WS X W R st ρ { k with nx := fun ρ' => WSs X W R rest ρ' k }) : WSs X W R (st :: rest) ρ k :=
  .of (pss_cons (ps_U (W := W)) (pss_U (W := W))) fun σ na F0 H0 F H D c n x q => ⟨ρ, _, R, na, F0, H0, F, h, c, n, x, ⟨fun ρ' σ' F' H' c' n' p => ⟨ρ', _, R, na, F0, H0, F', p, c', n', x, q⟩, q.rt, q.bk, q.ct, q.ro⟩⟩
theorem wss_one (h : WS X W R st ρ k) : WSs X W R [st] ρ k :=
  .of (pss_one (ps_U (W := W))) fun σ na F0 H0 F H D c n x q => ⟨ρ, _, R, na, F0, H0, F, h, c, n, x, q⟩
theorem ws_expr (h : WE X W R e ρ fun _ ρ' => k.nx ρ') (hs : swapsWith e none pos.line X.env = pure false := by rfl) : WS X W R (.Expr e pos) ρ k :=
  .of (ps_expr (pe_U (W := W)) hs) fun σ na F0 H0 F H D c n x q => ⟨ρ, _, R, na, F0, H0, F, h, c, n, x, fun d v ρ' F' H' c' n' hd p => q.nx ρ' σ F' H' c' n' p⟩
theorem ws_ret (h : WE X W R e ρ k.rt) : WS X W R (.Return (some e) pos) ρ k :=
  .of (ps_ret (pe_U (W := W))) fun σ na F0 H0 F H D c n x q => ⟨ρ, _, R, na, F0, H0, F, h, c, n, x, fun d v ρ' F' H' c' n' hd p => q.rt d v ρ' σ F' H' c' n' hd p⟩
/-- return of an own list -/
theorem ws_retO (i : Nat) {x1 : Str} {p1 : Pos} {ds : List Dat} (hi : ρ[i]? = some (.ow false ds)) (hp : k.ro ds ρ) (hN : X.N[i]? = some x1 := by rfl) (hv : Vis X.env.scope x1 := by first | exact Or.inl rfl | exact Or.inr (Or.inl rfl) | exact Or.inr (Or.inr rfl))
    (hd : (x1 == ("__debug__" : Str)) = false := by decide) (hcd : (x1 == ("__classdict__" : Str)) = false := by decide) : WS X W R (.Return (some (.Name x1 p1)) pos) ρ k :=
  .of (ps_ret (pe_var hN hv hd hcd)) fun σ na F0 H0 F H D c n x q => by
    obtain ⟨a0, vs, g1, g2, g3, g4, g5, g6⟩ := n.ow i false ds hi
    exact ⟨.ref a0, g1, q.ro ds a0 vs ρ σ F H c n g2 g3 (g6 rfl) g4 hp⟩
theorem ws_pass (p : k.nx ρ) : WS X W R (.Pass pos) ρ k := .of ps_pass fun σ na F0 H0 F H D c n x q => q.nx ρ σ F H c n p
theorem ws_brk (p : k.bk ρ) : WS X W R (.Break pos) ρ k := .of ps_break fun σ na F0 H0 F H D c n x q => q.bk ρ σ F H c n p
theorem ws_cont (p : k.ct ρ) : WS X W R (.Continue pos) ρ k := .of ps_continue fun σ na F0 H0 F H D c n x q => q.ct ρ σ F H c n p
theorem ws_if {c : Expr} {A B : List Stmt} (h : WT X W R c ρ fun t ρ' => (t = true → WSs X W R A ρ' k) ∧ (t = false → WSs X W R B ρ' k)) : WS X W R (.If c A B pos) ρ k :=
  .of (ps_if (pt_U (W := W)) (pss_U (W := W)) (pss_U (W := W))) fun σ na F0 H0 F H D c n x q => ⟨ρ, _, R, na, F0, H0, F, h, c, n, x, fun t ρ' F' H' c' n' p => by
    cases t with
    | true => exact iteT ⟨ρ', _, R, na, F0, H0, F', p.1 rfl, c', n', x, q⟩
    | false => exact iteF ⟨ρ', _, R, na, F0, H0, F', p.2 rfl, c', n', x, q⟩⟩
theorem ws_set (i : Nat) {x : Str} (hN : X.N.Nodup) (h : WE X W R e ρ fun d ρ' => k.nx (ρ'.set i (.pu d))) (hi : X.N[i]? = some x := by rfl) (hx : Loc X.env.scope x := by first | exact Or.inl rfl | exact Or.inr rfl)
    (hs : swapsWith e (some (.Name x pos')) pos.line X.env = pure false := by rfl) (hf : X.fn x = true ∨ X.env.scope.names.lookup x = some .local := by first | exact .inl rfl | exact .inr rfl | assumption) : WS X W R (.Assign [.Name x pos'] e pos) ρ k :=
  .of (ps_set hN hi hx (pe_U (W := W)) hs hf) fun σ na F0 H0 F H D c n x q => ⟨ρ, _, R, na, F0, H0, F, h, c, n, x, fun d v ρ' F' H' c' n' hd p => q.nx _ _ F' H' c' (n'.set hd) p⟩
end
end Sf
namespace PySem.W
open PySem PySem.Calls PyProof.Rows
section
variable {prog : Program} {w : World} {A : Around} {E : Value → Shared → Prop} {s : Shared} {K : Frag} {x C D L f : Addr} {h₀ : Heap} {m : Str → Option Value} {ox : Obj} {od : Option Obj}
/-- an own class's operator, the right side of another own class with the same operator -/
theorem sf_bin2 {op : Operator} {b : Value} {g : Addr} {rc rd : Option Value} {Q : Value → Shared → Prop} (F : Fr h₀ L s.heap m) (X₀ : K.In h₀) (I : InstAt s.heap x ox C od) (hb : Looks (model prog w) s.heap (typeOf b) (.ref D)) (hne : C ≠ D) (hc : selfFirst K C = true) (hd : selfFirst K D = true)
    (hs : findIn K (.ref C) (PySem.dunder op.info.2) = some (some (.ref f))) (hf : isFn K (.ref f) = true) (hr : findIn K (.ref C) (dunderR op.info.2) = some rc) (hp : rc = none ∨ ∃ g : Addr, rc = some (.ref g))
    (hs2 : findIn K (.ref D) (PySem.dunder op.info.2) = some (some (.ref g))) (hr2 : findIn K (.ref D) (dunderR op.info.2) = some rd) (hp2 : rd = none ∨ ∃ g : Addr, rd = some (.ref g)) (hsub : subIn K (.ref D) (.ref C) = some false)
    (h : wpAny (model prog w) A (call (.ref f) [.ref x, b]) (CmpBack Q) E s) : wpAny (model prog w) A (binaryOp op (.ref x) b) Q E s := by
  have X := X₀.keeps F.keep
  obtain ⟨cd, rest, hcd, hm⟩ := ksp_first hc
  obtain ⟨cd2, rest2, hcd2, hm2⟩ := ksp_first hd
  rcases hi : op.info with ⟨sym, nm'⟩
  rw [hi] at hs hr hs2 hr2
  dsimp only at hs hr hs2 hr2
  have one := ksp_try X I hs hf h
  obtain ⟨hh, g', d, tt, os⟩ := s
  have L1 : Looks (model prog w) hh (typeOf (.ref x)) (.ref C) := I.type
  have L2 : Looks (model prog w) hh (typeOf b) (.ref D) := hb
  have L3 : Looks (model prog w) hh (fillsNumberSlot (.ref C) nm') true := fills_K X hcd hm hs
  have L4 : Looks (model prog w) hh (fillsNumberSlot (.ref D) nm') true := fills_K X hcd2 hm2 hs2
  have L5 : Looks (model prog w) hh (isSubtype (.ref D) (.ref C)) false := looks_subIn X hsub
  have L6 : Looks (model prog w) hh (numberSlotInPython (.ref C) nm') true := ksp_inPy X hs hr hp
  have L7 : Looks (model prog w) hh (numberSlotInPython (.ref D) nm') true := ksp_inPy X hs2 hr2 hp2
  have hneq : (Value.ref C == Value.ref D) = false := Bool.eq_false_iff.mpr fun q => by
    have := beq_iff_eq.mp q
    injection this with z
    exact hne z
  simp only [binaryOp, hi]
  refine wpAny_holding (wpAny_bind ?_)
  unfold binaryOp1
  refine wpAny_bind (L1.at (wpAny_bind (L2.at (wpAny_bind (L3.at ?_)))))
  simp only [hneq, Bool.false_eq_true, if_false]
  ksp_lk
  refine wpAny_mono one (fun r s' hr' => ?_) fun _ _ e => e
  obtain ⟨v, rfl, hq⟩ := hr'
  ksp_lk
  exact hq
/-- != of an own class that has == -/
theorem sf_ne {b tb : Value} {Q : Value → Shared → Prop} (hu : A.units + 1 < cLine) (F : Fr h₀ L s.heap m) (X₀ : K.In h₀) (I : InstAt s.heap x ox C od) (hb : Looks (model prog w) s.heap (typeOf b) tb) (hn : notFirst K C tb = true)
    (hne : findIn K (.ref C) "__ne__" = some (some (.builtin "object.__ne__"))) (he : findIn K (.ref C) "__eq__" = some (some (.ref f))) (hf : isFn K (.ref f) = true) (ho : subIn K (.ref C) (.type "object") = some true)
    (h : wpAny (model prog w) A.in1 (call (.ref f) [.ref x, b]) (fun v s' => ∃ r, v = .bool r ∧ Q (.bool (!r)) s') E s) : wpAny (model prog w) A (richCompare .NotEq (.ref x) b) Q E s := by
  have X := X₀.keeps F.keep
  have one : wpAny (model prog w) A (tryCompare (.ref x) "__ne__" b) (fun r s' => ∃ v, r = some v ∧ Q v s') E s := by
    unfold tryCompare
    have bind : bindSpecial (.builtin "object.__ne__") (.ref x) = pure (.builtin "object.__ne__", [.ref x]) := PySem.F.cmp_object.ne.bind (.ref x)
    have body : wpAny (model prog w) A (call (.builtin "object.__ne__") [.ref x, b]) (fun v s' => v ≠ .notImplemented ∧ Q v s') E s := by
      refine wpAny_call (codeAny_call_builtin PySem.F.cmp_object.ne.plain PySem.F.cmpEntry_ne (@check_slot (model prog w) _ _ s "object.__ne__" "object" "__ne__" (.ref x) [b] [] _ PySem.F.cmpKind_ne PySem.F.cmpSplit_ne (I.type.andThen (looks_subIn X ho)) (PySem.F.cmpArgs_ne _ _) ?_))
      unfold Builtin.«object.__ne__»
      have e0 : slotArgs "__ne__" 1 ⟨[.ref x, b], []⟩ = pure ((.ref x : Value), [b]) := by kernel_rfl
      rw [e0]
      refine wpAny_bind (wpAny_pure ?_)
      dsimp only
      refine wpAny_bind (wpAny_cRoomFor (Nat.lt_of_le_of_lt (Nat.le_refl _) hu) ?_)
      refine wpAny_bind (ifBound_K X I he hf (wpAny_mono h (fun v s' hv => ?_) fun _ _ e => e))
      obtain ⟨r, rfl, q⟩ := hv
      dsimp only
      refine wpAny_bind (wpAny_truthy_bool (wpAny_pure ?_))
      exact ⟨(fun z => nomatch z), q⟩
    have fin : wpAny (model prog w) A (call (.builtin "object.__ne__") ([.ref x] ++ [b]) >>= fun v => pure (some v)) (fun r s' => wpAny (model prog w) A (match r with | some .notImplemented => pure none | none => pure none | some v => pure (some v)) (fun r s' => ∃ v, r = some v ∧ Q v s') E s') E s :=
      wpAny_bind (wpAny_mono body (fun v s' hv => wpAny_pure (by
        obtain ⟨hv1, hv2⟩ := hv
        cases v <;> first | exact absurd rfl hv1 | exact wpAny_pure ⟨_, rfl, hv2⟩)) fun _ _ h' => h')
    simp only [callSpecialIfBound?, bindSpecialIfBound?]
    refine wpAny_bind (wpAny_holding (wpAny_bind (wpAny_bind (wpAny_bind (I.type.here ((looks_findIn X hne).here ?_))))))
    refine wpAny_bind (wpAny_askSetting (wpAny_ite ?_))
    rw [bind]
    split
    · exact wpAny_bind (wpAny_pure (wpAny_pure (by exact fin)))
    · exact wpAny_tryCatch (wpAny_bind (wpAny_pure (wpAny_pure (by exact fin))))
  unfold richCompare
  simp only [oneThing_ref]
  refine wpAny_holding (wpAny_bind (wpAny_cRoomFor (Nat.lt_of_succ_lt hu) ?_))
  refine wpAny_bind (I.type.here (wpAny_bind (hb.here ?_)))
  split
  · rename_i q
    have e : subIn K tb (.ref C) = some false := by
      rcases Bool.or_eq_true_iff.mp hn with e | e
      · rw [beq_iff_eq.mp e] at q; simp at q
      · exact beq_iff_eq.mp e
    refine wpAny_bind ((looks_subIn X e).here ?_)
    simp only [Bool.false_eq_true, if_false]
    refine wpAny_bind (wpAny_mono one (fun r s' z => ?_) fun _ _ e => e)
    obtain ⟨v, rfl, hq⟩ := z
    exact wpAny_pure hq
  · refine wpAny_bind (wpAny_pure ?_)
    simp only [Bool.false_eq_true, if_false]
    refine wpAny_bind (wpAny_mono one (fun r s' z => ?_) fun _ _ e => e)
    obtain ⟨v, rfl, hq⟩ := z
    exact wpAny_pure hq
end
end PySem.W
namespace Sf
open PySem L2

/-! ### promises of defs, without the heap -/
abbrev DSp := List Dat → (Dat → Prop) → (Addr → Prop) → Prop
/-- a def that only makes objects -/
def lift (K : PySem.W.Frag) (s : DSp) : Sp := fun vs H Q E => ∃ F ds P R, Ex F H ∧ Isl K ds vs F ∧ s ds P R ∧
  (∀ d v F' H', Stp F H F' H' → Is K d v F' → P d → Q v H') ∧ ∀ C F' H', Stp F H F' H' → R C → E (.ref C) none H'
/-- an __init__: what stands at the new object behind it -/
def liftI (K : PySem.W.Frag) (C : Addr) (s : DSp) : Sp := fun vs H Q E => ∃ p dx vs' F ds P R, vs = .ref p :: vs' ∧ H p = some (.ins C dx []) ∧ Ex F H ∧ F p = none ∧ Isl K ds vs' F ∧ s ds P R ∧
  (∀ ks es ws dy F' H', Cur (some p) F H F' H' → H' p = some (.ins C dy (ks.zip ws)) → ks.length = ws.length → Isl K es ws F' → P (.ins C ks es) → Q .non H') ∧
  ∀ D F' H', Cur (some p) F H F' H' → R D → E (.ref D) none H'
/-- a def whose first argument is a list that it changes -/
abbrev NSp := List Dat → List Dat → (Dat → List Dat → Prop) → Prop
def liftN (K : PySem.W.Frag) (s : NSp) : Sp := fun vs H Q E => ∃ p vs' us F ds es P, vs = .ref p :: vs' ∧ H p = some (.lst us) ∧ Ex F H ∧ F p = none ∧ Isl K es us F ∧ Isl K ds vs' F ∧ s es ds P ∧
  ∀ d v es' us' F' H', Cur (some p) F H F' H' → H' p = some (.lst us') → Isl K es' us' F' → Is K d v F' → P d es' → Q v H'

theorem Cur.toStp {F0 H0 F H : Hp} (c : Cur none F0 H0 F H) : Stp F0 H0 F H := ⟨c.ff, fun a o h => c.hh a o (fun z => nomatch z) h, c.fh, c.pr⟩
theorem Isl.at {K : PySem.W.Frag} {ds : List Dat} {vs : List V} {F : Hp} (h : Isl K ds vs F) {m n i : Nat} {d : Dat} (e : (ds.map Sl.pu ++ List.replicate m Sl.no)[i]? = some (.pu d)) : ∃ v, (vs.map some ++ List.replicate n (none : Option V))[i]? = some (some v) ∧ Is K d v F := by
  by_cases hi : i < ds.length
  · rw [List.getElem?_append_left (by simpa using hi), List.getElem?_map] at e
    cases q : ds[i]? with
    | none => rw [q] at e; cases e
    | some d' =>
      rw [q] at e; cases e
      obtain ⟨v, h1, h2⟩ := h.get q
      refine ⟨v, ?_, h2⟩
      rw [List.getElem?_append_left (by simpa [← h.length] using hi), List.getElem?_map, h1]
      rfl
  · rw [List.getElem?_append_right (by simpa using hi), List.getElem?_replicate] at e
    split at e <;> cases e
theorem no_at {ds : List Dat} {m i : Nat} {s : Sl} (h : (ds.map Sl.pu ++ List.replicate m Sl.no)[i]? = some s) : s = .no ∨ ∃ d, s = .pu d := by
  by_cases hi : i < ds.length
  · rw [List.getElem?_append_left (by simpa using hi), List.getElem?_map] at h
    cases q : ds[i]? with
    | none => rw [q] at h; cases h
    | some d' => rw [q] at h; cases h; exact .inr ⟨_, rfl⟩
  · rw [List.getElem?_append_right (by simpa using hi), List.getElem?_replicate] at h
    split at h
    · cases h; exact .inl rfl
    · cases h
theorem Env1.start {K : PySem.W.Frag} {ds : List Dat} {vs : List V} {F H : Hp} (N : List Str) (h : Isl K ds vs F) : Env1 K (ds.map Sl.pu ++ List.replicate (N.length - ds.length) Sl.no) (L2.start N vs) none H F H := by
  refine ⟨fun i d e => h.at e, fun i l es e => ?_, fun i C ks es e => ?_, fun i j l m es fs a e => ?_, fun i j C D ks ls ds' es' e => ?_, ?_⟩
  · rcases no_at e with q | ⟨d, q⟩ <;> cases q
  · rcases no_at e with q | ⟨d, q⟩ <;> cases q
  · rcases no_at e with q | ⟨d, q⟩ <;> cases q
  · rcases no_at e with q | ⟨d, q⟩ <;> cases q
  · unfold L2.start
    simp [h.length]
theorem consL {ρ : List Sl} {s : Sl} {i : Nat} {t : Sl} (e : (s :: ρ)[i]? = some t) : (i = 0 ∧ t = s) ∨ ∃ j, i = j + 1 ∧ ρ[j]? = some t := by
  cases i with
  | zero => left; exact ⟨rfl, (Option.some.inj (by simpa using e)).symm⟩
  | succ j => right; exact ⟨j, rfl, by simpa using e⟩
theorem Env1.startI {K : PySem.W.Frag} {ds : List Dat} {vs : List V} {F H : Hp} {p C dx : Addr} (N : List Str) (h : Isl K ds vs F) (hp : H p = some (.ins C dx [])) (hf : F p = none) :
    Env1 K (Sl.ob C [] [] :: (ds.map Sl.pu ++ List.replicate (N.length - (ds.length + 1)) Sl.no)) (L2.start N (.ref p :: vs)) (some p) H F H := by
  have es : L2.start N (V.ref p :: vs) = some (.ref p) :: (vs.map some ++ List.replicate (N.length - (vs.length + 1)) none) := rfl
  rw [es]
  refine ⟨fun i d e => ?_, fun i l fs e => ?_, fun i C' ks fs e => ?_, fun i j l m fs gs a e => ?_, fun i j C' D ks ls ds' es' e1 e2 => ?_, ?_⟩
  · rcases consL e with ⟨_, q⟩ | ⟨j, rfl, q⟩
    · cases q
    · rw [List.getElem?_cons_succ]
      rw [← h.length]
      exact h.at q
  · rcases consL e with ⟨_, q⟩ | ⟨j, rfl, q⟩
    · cases q
    · rcases no_at q with q | ⟨d, q⟩ <;> cases q
  · rcases consL e with ⟨rfl, q⟩ | ⟨j, rfl, q⟩
    · cases q
      exact ⟨p, dx, [], rfl, rfl, hf, hp, rfl, .nil⟩
    · rcases no_at q with q | ⟨d, q⟩ <;> cases q
  · rcases consL e with ⟨_, q⟩ | ⟨j, rfl, q⟩
    · cases q
    · rcases no_at q with q | ⟨d, q⟩ <;> cases q
  · rcases consL e1 with ⟨rfl, q⟩ | ⟨i', rfl, q⟩
    · rcases consL e2 with ⟨rfl, q⟩ | ⟨j', rfl, q⟩
      · rfl
      · rcases no_at q with q | ⟨d, q⟩ <;> cases q
    · rcases no_at q with q | ⟨d, q⟩ <;> cases q
  · simp [h.length]
theorem Env1.startN {K : PySem.W.Frag} {ds es : List Dat} {vs us : List V} {F H : Hp} {p : Addr} (N : List Str) (h : Isl K ds vs F) (hp : H p = some (.lst us)) (hu : Isl K es us F) (hf : F p = none) :
    Env1 K (Sl.ow true es :: (ds.map Sl.pu ++ List.replicate (N.length - (ds.length + 1)) Sl.no)) (L2.start N (.ref p :: vs)) (some p) H F H := by
  have e0 : L2.start N (V.ref p :: vs) = some (.ref p) :: (vs.map some ++ List.replicate (N.length - (vs.length + 1)) none) := rfl
  rw [e0]
  refine ⟨fun i d e => ?_, fun i l fs e => ?_, fun i C' ks fs e => ?_, fun i j l m fs gs a e1 e2 _ _ => ?_, fun i j C' D ks ls ds' es' e => ?_, ?_⟩
  · rcases consL e with ⟨_, q⟩ | ⟨j, rfl, q⟩
    · cases q
    · rw [List.getElem?_cons_succ]
      rw [← h.length]
      exact h.at q
  · rcases consL e with ⟨rfl, q⟩ | ⟨j, rfl, q⟩
    · cases q
      exact ⟨p, us, rfl, hf, hp, hu, fun _ => rfl, fun z => nomatch z⟩
    · rcases no_at q with q | ⟨d, q⟩ <;> cases q
  · rcases consL e with ⟨_, q⟩ | ⟨j, rfl, q⟩
    · cases q
    · rcases no_at q with q | ⟨d, q⟩ <;> cases q
  · rcases consL e1 with ⟨rfl, q⟩ | ⟨i', rfl, q⟩
    · rcases consL e2 with ⟨rfl, q⟩ | ⟨j', rfl, q⟩
      · rfl
      · rcases no_at q with q | ⟨d, q⟩ <;> cases q
    · rcases no_at q with q | ⟨d, q⟩ <;> cases q
  · rcases consL e with ⟨_, q⟩ | ⟨j, rfl, q⟩
    · cases q
    · rcases no_at q with q | ⟨d, q⟩ <;> cases q
  · simp [h.length]

/-! ### a def keeps its promise by its body -/
section
variable {P : Program} {w : World} {K : PySem.W.Frag} {mg : Str → Option Value} {base : Heap} {x qual : Str} {params : Arguments} {body : List Stmt} {scope : Scope} {dvs : List V} {kws : List (Str × V)} {f : Addr} {fd : FuncData} {N ps : List Str} {k : Nat}
abbrev wxE (E : XK) : WX := fun cls d _ H => E cls d H
/-- the context of a def's body -/
abbrev cxB (P : Program) (w : World) (K : PySem.W.Frag) (mg : Str → Option Value) (base : Heap) (N : List Str) (qual : Str) (scope : Scope) (f : Addr) (cdv : Value) (A : Around) (outer : List Env) (s : Shared) (H : Hp) (E : XK) : Cx :=
  cxOf (L2.CX P w) P w K mg base N qual scope f cdv A outer s H E
theorem takesB {qual : Str} {scope : Scope} {cdv : Value} {A : Around} {outer : List Env} {s : Shared} {H : Hp} {E : XK} : Takes (cxB P w K mg base N qual scope f cdv A outer s H E) (wxE E) := takes_of rfl rfl rfl rfl
theorem def_ok {s : DSp} (F : FunD K x qual params body scope dvs kws f fd) (S : FnScope N ps scope) (len : ∀ ds P R, s ds P R → ds.length = ps.length)
    (hb : ∀ (cdv : Value) (A : Around) (outer : List Env) (s0 : Shared) (H : Hp) (E : XK) (ds : List Dat) (Pd : Dat → Prop) (R : Addr → Prop), Room k (A.deeper (PyProof.Rows.envOfC qual scope s0.heap.objs.size f cdv)) → s ds Pd R →
      WSs (cxB P w K mg base N qual scope f cdv A outer s0 H E) (wxE E) (fun C _ => R C) body (ds.map Sl.pu ++ List.replicate (N.length - ds.length) Sl.no) { nx := fun _ => Pd dN, rt := fun d _ => Pd d }) : FnOk P w K mg base (L2.CX P w) (k + 1) f fd ps (lift K s) := by
  refine F.ok S (fun vs H Q E h => ?_) (fun cdv A outer s0 H vs Q E hr h => ?_)
  · obtain ⟨F, ds, Pd, R, _, hi, hs, _⟩ := h
    rw [← hi.length]
    exact len _ _ _ hs
  · obtain ⟨F, ds, Pd, R, e, hi, hs, hq, hx⟩ := h
    refine ⟨tUSs _ (wxE E) body, pss_U, _, _, fun C _ => R C, none, F, H, F, hb cdv A outer s0 H E ds Pd R hr hs, Cur.start e, Env1.start N hi, ?_, ?_⟩
    · exact fun C ρ σ F' H' c' _ r => hx C F' H' c'.toStp r
    · exact ⟨fun ρ σ F' H' c' _ p => hq dN .non F' H' c'.toStp .v p, fun d v ρ σ F' H' c' _ hd p => hq d v F' H' c'.toStp hd p, fun _ _ _ _ _ _ p => p.elim, fun _ _ _ _ _ _ p => p.elim, fun _ _ _ _ _ _ _ _ _ _ _ _ _ p => p.elim⟩
theorem init_ok {s : DSp} {C : Addr} (F : FunD K x qual params body scope dvs kws f fd) (S : FnScope N ps scope) (len : ∀ ds P R, s ds P R → ds.length + 1 = ps.length)
    (hb : ∀ (cdv : Value) (A : Around) (outer : List Env) (s0 : Shared) (H : Hp) (E : XK) (ds : List Dat) (Pd : Dat → Prop) (R : Addr → Prop), Room k (A.deeper (PyProof.Rows.envOfC qual scope s0.heap.objs.size f cdv)) → s ds Pd R →
      WSs (cxB P w K mg base N qual scope f cdv A outer s0 H E) (wxE E) (fun C _ => R C) body (Sl.ob C [] [] :: (ds.map Sl.pu ++ List.replicate (N.length - (ds.length + 1)) Sl.no))
        { nx := fun ρ => ∃ ks es, ρ[0]? = some (.ob C ks es) ∧ Pd (.ins C ks es), rt := fun _ _ => False }) : FnOk P w K mg base (L2.CX P w) (k + 1) f fd ps (liftI K C s) := by
  refine F.ok S (fun vs H Q E h => ?_) (fun cdv A outer s0 H vs Q E hr h => ?_)
  · obtain ⟨p, dx, vs', F, ds, Pd, R, rfl, _, _, _, hi, hs, _⟩ := h
    rw [List.length_cons, ← hi.length]
    exact len _ _ _ hs
  · obtain ⟨p, dx, vs', F, ds, Pd, R, rfl, hp, e, hf, hi, hs, hq, hx⟩ := h
    refine ⟨tUSs _ (wxE E) body, pss_U, _, _, fun C _ => R C, some p, F, H, F, hb cdv A outer s0 H E ds Pd R hr hs, Cur.startN e hp hf, Env1.startI N hi hp hf, ?_, ?_⟩
    · exact fun C ρ σ F' H' c' _ r => hx C F' H' c' r
    · refine ⟨fun ρ σ F' H' c' n' p' => ?_, fun _ _ _ _ _ _ _ _ _ p => p.elim, fun _ _ _ _ _ _ p => p.elim, fun _ _ _ _ _ _ p => p.elim, fun _ _ _ _ _ _ _ _ _ _ _ _ _ p => p.elim⟩
      obtain ⟨ks, es, h0, hP⟩ := p'
      obtain ⟨a, dx', ws, h1, h2, h3, h4, h5, h6⟩ := n'.ob 0 C ks es h0
      cases h2
      exact hq ks es ws dx' F' H' c' h4 h5 h6 hP
theorem defN_ok {s : NSp} (F : FunD K x qual params body scope dvs kws f fd) (S : FnScope N ps scope) (len : ∀ es ds P, s es ds P → ds.length + 1 = ps.length)
    (hb : ∀ (cdv : Value) (A : Around) (outer : List Env) (s0 : Shared) (H : Hp) (E : XK) (es ds : List Dat) (Pd : Dat → List Dat → Prop), Room k (A.deeper (PyProof.Rows.envOfC qual scope s0.heap.objs.size f cdv)) → s es ds Pd →
      WSs (cxB P w K mg base N qual scope f cdv A outer s0 H E) (wxE E) (fun _ _ => False) body (Sl.ow true es :: (ds.map Sl.pu ++ List.replicate (N.length - (ds.length + 1)) Sl.no))
        { nx := fun ρ => ∃ es', ρ[0]? = some (.ow true es') ∧ Pd dN es', rt := fun d ρ => ∃ es', ρ[0]? = some (.ow true es') ∧ Pd d es' }) : FnOk P w K mg base (L2.CX P w) (k + 1) f fd ps (liftN K s) := by
  refine F.ok S (fun vs H Q E h => ?_) (fun cdv A outer s0 H vs Q E hr h => ?_)
  · obtain ⟨p, vs', us, F, ds, es, Pd, rfl, _, _, _, _, hi, hs, _⟩ := h
    rw [List.length_cons, ← hi.length]
    exact len _ _ _ hs
  · obtain ⟨p, vs', us, F, ds, es, Pd, rfl, hp, e, hf, hu, hi, hs, hq⟩ := h
    have fin : ∀ {d v ρ σ F' H'}, Cur (some p) F H F' H' → Env1 K ρ σ (some p) H F' H' → Is K d v F' → (∃ es', ρ[0]? = some (.ow true es') ∧ Pd d es') → Q v H' := fun {d v ρ σ F' H'} c' n' hd p' => by
      obtain ⟨es', h1, hP⟩ := p'
      obtain ⟨a, ws, g1, g2, g3, g4, g5, _⟩ := n'.ow 0 true es' h1
      cases g5 rfl
      exact hq d v es' ws F' H' c' g3 g4 hd hP
    refine ⟨tUSs _ (wxE E) body, pss_U, _, _, fun _ _ => False, some p, F, H, F, hb cdv A outer s0 H E es ds Pd hr hs, Cur.startN e hp hf, Env1.startN N hi hp hu hf, fun C ρ σ F' H' c' _ r => r.elim, ?_⟩
    refine ⟨fun ρ σ F' H' c' n' p' => ?_, fun d v ρ σ F' H' c' n' hd p' => ?_, fun _ _ _ _ _ _ p => p.elim, fun _ _ _ _ _ _ p => p.elim, fun _ _ _ _ _ _ _ _ _ _ _ _ _ p => p.elim⟩
    · exact fin c' n' .v p'
    · exact fin c' n' hd p'
/-- a def that hands back a new list, not yet looked at by anybody -/
abbrev LSp := List Dat → (List Dat → Prop) → Prop
def liftL (K : PySem.W.Frag) (s : LSp) : Sp := fun vs H Q _ => ∃ F ds P, Ex F H ∧ Isl K ds vs F ∧ s ds P ∧
  ∀ es a us F' H', Stp F H F' H' → H a = none → F' a = none → H' a = some (.lst us) → Isl K es us F' → P es → Q (.ref a) H'
theorem defL_ok {s : LSp} (F : FunD K x qual params body scope dvs kws f fd) (S : FnScope N ps scope) (len : ∀ ds P, s ds P → ds.length = ps.length)
    (hb : ∀ (cdv : Value) (A : Around) (outer : List Env) (s0 : Shared) (H : Hp) (E : XK) (ds : List Dat) (Pd : List Dat → Prop), Room k (A.deeper (PyProof.Rows.envOfC qual scope s0.heap.objs.size f cdv)) → s ds Pd →
      WSs (cxB P w K mg base N qual scope f cdv A outer s0 H E) (wxE E) (fun _ _ => False) body (ds.map Sl.pu ++ List.replicate (N.length - ds.length) Sl.no) { nx := fun _ => False, rt := fun _ _ => False, ro := fun es _ => Pd es }) : FnOk P w K mg base (L2.CX P w) (k + 1) f fd ps (liftL K s) := by
  refine F.ok S (fun vs H Q E h => ?_) (fun cdv A outer s0 H vs Q E hr h => ?_)
  · obtain ⟨F, ds, Pd, _, hi, hs, _⟩ := h
    rw [← hi.length]
    exact len _ _ hs
  · obtain ⟨F, ds, Pd, e, hi, hs, hq⟩ := h
    refine ⟨tUSs _ (wxE E) body, pss_U, _, _, fun _ _ => False, none, F, H, F, hb cdv A outer s0 H E ds Pd hr hs, Cur.start e, Env1.start N hi, fun _ _ _ _ _ _ _ z => z.elim, ?_⟩
    exact ⟨fun _ _ _ _ _ _ p => p.elim, fun _ _ _ _ _ _ _ _ _ p => p.elim, fun _ _ _ _ _ _ p => p.elim, fun _ _ _ _ _ _ p => p.elim, fun es a us ρ σ F' H' c' _ g2 g3 g4 hi' p => hq es a us F' H' c'.toStp g4 g2 g3 hi' p⟩
end
end Sf
namespace Sf
open PySem L2

/-! ### what stands behind the top: a def, a method, a class -/
structure Fg (P : Program) (w : World) (K : PySem.W.Frag) (mg : Str → Option Value) (base : Heap) (x : Str) (k : Nat) (dd : List V) (s : DSp) : Prop where
  ex : ∃ f fd ps ds, FnOk P w K mg base (L2.CX P w) k f fd ps (lift K s) ∧ mg x = some (.ref f) ∧ PySem.W.keepIn K (.ref f) = true ∧ Binds K fd ps ds ∧ Vals dd ds
structure FgN (P : Program) (w : World) (K : PySem.W.Frag) (mg : Str → Option Value) (base : Heap) (x : Str) (k : Nat) (s : NSp) : Prop where
  ex : ∃ f fd ps, FnOk P w K mg base (L2.CX P w) k f fd ps (liftN K s) ∧ mg x = some (.ref f) ∧ PySem.W.keepIn K (.ref f) = true ∧ Binds K fd ps []
structure FgL (P : Program) (w : World) (K : PySem.W.Frag) (mg : Str → Option Value) (base : Heap) (x : Str) (k : Nat) (s : LSp) : Prop where
  ex : ∃ f fd ps, FnOk P w K mg base (L2.CX P w) k f fd ps (liftL K s) ∧ mg x = some (.ref f) ∧ PySem.W.keepIn K (.ref f) = true ∧ Binds K fd ps []
structure Mg (P : Program) (w : World) (K : PySem.W.Frag) (mg : Str → Option Value) (base : Heap) (C : Addr) (m : Str) (k : Nat) (dd : List V) (s : DSp) : Prop where
  ex : ∃ f fd ps ds, FnOk P w K mg base (L2.CX P w) k f fd ps (lift K s) ∧ Meth K C m f ∧ Binds K fd ps ds ∧ Vals dd ds
structure Kg (P : Program) (w : World) (K : PySem.W.Frag) (mg : Str → Option Value) (base : Heap) (x : Str) (C : Addr) (k : Nat) (dd : List V) (s : DSp) : Prop where
  ex : ∃ f fd ps ds, FnOk P w K mg base (L2.CX P w) k f fd ps (liftI K C s) ∧ Mk K C f ∧ mg x = some (.ref C) ∧ Binds K fd ps ds ∧ Vals dd ds
theorem Fg.mono {P w K mg base x k k' dd s} (h : Fg P w K mg base x k dd s) (l : k ≤ k') : Fg P w K mg base x k' dd s := let ⟨f, fd, ps, ds, a, b⟩ := h.ex; ⟨f, fd, ps, ds, a.mono l, b⟩
theorem Mg.mono {P w K mg base C m k k' dd s} (h : Mg P w K mg base C m k dd s) (l : k ≤ k') : Mg P w K mg base C m k' dd s := let ⟨f, fd, ps, ds, a, b⟩ := h.ex; ⟨f, fd, ps, ds, a.mono l, b⟩
theorem isl_v {K : PySem.W.Frag} {F : Hp} : ∀ vs : List V, Isl K (vs.map Dat.v) vs F
  | [] => .nil
  | _ :: vs => .cons .v (isl_v vs)
theorem lookup_no {ks : List Str} {m : Str} (h : m ∉ ks) : ∀ vs : List V, (ks.zip vs).lookup m = none := by
  induction ks with
  | nil => intro vs; rfl
  | cons k ks ih =>
    intro vs
    cases vs with
    | nil => rfl
    | cons v vs =>
      rw [List.zip_cons_cons, List.lookup_cons]
      have h1 : (m == k) = false := by
        have : m ≠ k := fun z => h (z ▸ List.mem_cons_self)
        simpa using this
      rw [h1]
      exact ih (fun z => h (List.mem_cons_of_mem _ z)) vs

section
variable {X : Cx} {W : WX} {R : RX} {e a b c o : Expr} {es : List Expr} {st : Stmt} {sts rest : List Stmt} {ρ : List Sl} {P : PD} {k : Kn} {pos pos' p apos : Pos} {x m : Str} {l : Nat} {dd : List V} {s : DSp}
/-- what a call hands on -/
theorem lift_go {na : Option Addr} {F0 H0 F H : Hp} {σ : L2.St} {Q : VK} {ds : List Dat} {vs : List V} (hs : s (ds ++ dd.map Dat.v) (fun d => P d ρ) (fun C => R C ρ)) (hi : Isl X.K ds vs F) (c : Cur na F0 H0 F H) (n : Env1 X.K ρ σ na H0 F H) (xo : ExcOk X.K W R na F0 H0)
    (q : ∀ d v ρ' F' H', Cur na F0 H0 F' H' → Env1 X.K ρ' σ na H0 F' H' → Is X.K d v F' → P d ρ' → Q v H') : lift X.K s (vs ++ dd) H Q (L2.WE W σ) :=
  ⟨F, _, _, _, c.fh, hi.append (isl_v dd), hs, fun d v F' H' st hd p => q d v ρ F' H' (c.stp st) (n.stp st) hd p, fun C F' H' st r => xo C ρ σ F' H' (c.stp st) (n.stp st) r⟩
theorem we_call (G : Fg X.prog X.w X.K X.mg X.base x l dd s) (hr : Room l X.A) (tk : Takes X W) (h : WA X W R (e :: es) ρ fun ds ρ' => s (ds ++ dd.map Dat.v) (fun d => P d ρ') (fun C => R C ρ'))
    (hg : Gl X x := by rfl) (hdb : (x == ("__debug__" : Str)) = false := by decide) (he : starEach (e :: es) X.env = (false, eval e X.env) :: starEach es X.env := by rfl) (hpl : (backTo pos (starEach es X.env)).any (·.1) = false := by rfl) : WE X W R (.Call (.Name x p) (e :: es) [] pos) ρ P := by
  obtain ⟨f, fd, ps, ds, F, hm, hk, hb, hd⟩ := G.ex
  exact .of (pe_callSD F hr hg hm hk hb hd (fun σ => passAt tk σ) (pa_U (W := W)) hdb he hpl) fun σ na F0 H0 F H Q c n xo q => ⟨ρ, _, R, na, F0, H0, F, h, c, n, xo, fun ds vs ρ' F' H' c' n' hi hs => lift_go hs hi c' n' xo q⟩
/-- a call whose first argument is the slot of an own (or lent) list -/
theorem we_callN {s : NSp} {lb : Bool} {us : List Dat} {x1 : Str} {p1 : Pos} (i : Nat) (G : FgN X.prog X.w X.K X.mg X.base x l s) (hr : Room l X.A) (tk : Takes X W) (hi : ρ[i]? = some (.ow lb us))
    (h : WA X W R es ρ fun ds ρ' => ρ' = ρ ∧ s us ds fun d us' => P d (ρ.set i (.ow lb us'))) (hN : X.N[i]? = some x1 := by rfl) (hv : Vis X.env.scope x1 := by first | exact Or.inl rfl | exact Or.inr (Or.inl rfl) | exact Or.inr (Or.inr rfl)) (hd : (x1 == ("__debug__" : Str)) = false := by decide)
    (hcd : (x1 == ("__classdict__" : Str)) = false := by decide)
    (hg : Gl X x := by rfl) (hdb : (x == ("__debug__" : Str)) = false := by decide) (hs1 : starEach (.Name x1 p1 :: es) X.env = (false, eval (.Name x1 p1) X.env) :: starEach es X.env := by rfl) (hpl : (backTo pos (starEach es X.env)).any (·.1) = false := by rfl) : WE X W R (.Call (.Name x p) (.Name x1 p1 :: es) [] pos) ρ P := by
  obtain ⟨f, fd, ps, F, hm, hk, hb⟩ := G.ex
  refine .of (pe_callSD F hr hg hm hk hb .nil (fun σ => passAt tk σ) (pa_cons (pe_var hN hv hd hcd) (pa_U (W := W)) hs1) hdb hs1 hpl) fun σ na F0 H0 F H Q c n xo q => ?_
  obtain ⟨a0, vs0, g1, g2, g3, g4, g5, g6⟩ := n.ow i lb us hi
  refine ⟨.ref a0, g1, ρ, _, R, na, F0, H0, F, h, c, n, xo, fun ds vs ρ' F' H' c' n' hds ⟨e0, hs⟩ => ?_⟩
  subst e0
  obtain ⟨a, us', k1, k2, k3, k4, k5, k6⟩ := n'.ow i lb us hi
  rw [g1] at k1
  cases k1
  refine ⟨a0, vs, us', F', ds, us, _, by rw [List.append_nil], k3, c'.fh, k2, k4, hds, hs, fun d v es' ws F2 H2 c2 w1 w2 hd2 p2 => ?_⟩
  have f2 : F2 a0 = none := (c2.lv a0 rfl).2
  have cc : Cur na F0 H0 F2 H2 := by
    refine ⟨c'.ff.trans c2.ff, fun b u nb hb' => ?_, c2.fh, fun b u h1 h2 => ?_, fun b hb' => ?_, c'.nz⟩
    · by_cases q0 : b = a0
      · subst q0
        cases lb with
        | true => exact absurd (g5 rfl) nb
        | false => rw [g6 rfl] at hb'; cases hb'
      · exact c2.hh b u (fun z => q0 (Option.some.inj z).symm) (c'.hh b u nb hb')
    · by_cases q0 : na = some b
      · obtain ⟨⟨u', hu'⟩, hf⟩ := c'.lv b q0
        exact c2.pr b u' hu' hf
      · exact c2.pr b u (c'.hh b u q0 h1) (c'.pr b u h1 h2)
    · obtain ⟨⟨u', hu'⟩, hf⟩ := c'.lv b hb'
      refine ⟨?_, c2.pr b u' hu' hf⟩
      by_cases q0 : b = a0
      · subst q0; exact ⟨_, w1⟩
      · exact ⟨u', c2.hh b u' (fun z => q0 (Option.some.inj z).symm) hu'⟩
  have other : ∀ (j : Nat) (t : Sl), (ρ'.set i (.ow lb es'))[j]? = some t → (i = j ∧ t = .ow lb es') ∨ (i ≠ j ∧ ρ'[j]? = some t) := fun j t ht => by
    by_cases q0 : i = j
    · subst q0
      rw [List.getElem?_set_self (by exact (List.getElem?_eq_some_iff.mp hi).1)] at ht
      exact .inl ⟨rfl, (Option.some.inj ht).symm⟩
    · rw [List.getElem?_set_ne q0] at ht
      exact .inr ⟨q0, ht⟩
  refine q d v _ F2 H2 cc ⟨fun j d' h1 => ?_, fun j l' ds' h1 => ?_, fun j C ks ds' h1 => ?_, fun j j' l1 l2 ds1 es1 b h1 h2 h3 h4 => ?_, fun j j' C D ks ls ds1 es1 h1 h2 => ?_, by rw [List.length_set]; exact n'.ln⟩ hd2 p2
  · rcases other j _ h1 with ⟨_, z⟩ | ⟨_, z⟩
    · cases z
    · obtain ⟨v', y1, y2⟩ := n'.pu j d' z
      exact ⟨v', y1, y2.mono c2.ff⟩
  · rcases other j _ h1 with ⟨e1, z⟩ | ⟨q0, z⟩
    · subst e1
      cases z
      exact ⟨a0, ws, g1, f2, w1, w2, g5, g6⟩
    · obtain ⟨b, ws', y1, y2, y3, y4, y5⟩ := n'.ow j l' ds' z
      have nb : b ≠ a0 := fun z' => by
        subst z'
        exact q0 (n'.ap i j lb l' us ds' b hi z g1 y1)
      exact ⟨b, ws', y1, c2.pr b _ y3 y2, c2.hh b _ (fun z => nb (Option.some.inj z).symm) y3, y4.mono c2.ff, y5⟩
  · rcases other j _ h1 with ⟨_, z⟩ | ⟨q0, z⟩
    · cases z
    · obtain ⟨b, dx, ws', y1, y2, y3, y4, y5, y6⟩ := n'.ob j C ks ds' z
      have nb : b ≠ a0 := fun z' => by subst z'; rw [k3] at y4; cases y4
      exact ⟨b, dx, ws', y1, y2, c2.pr b _ y4 y3, c2.hh b _ (fun z => nb (Option.some.inj z).symm) y4, y5, y6.mono c2.ff⟩
  · rcases other j _ h1 with ⟨e1, z1⟩ | ⟨q1, z1⟩
    · rcases other j' _ h2 with ⟨e2, z2⟩ | ⟨q2, z2⟩
      · exact e1.symm.trans e2
      · subst e1
        rw [g1] at h3
        cases h3
        exact n'.ap i j' lb l2 us es1 a0 hi z2 g1 h4
    · rcases other j' _ h2 with ⟨e2, z2⟩ | ⟨q2, z2⟩
      · subst e2
        rw [g1] at h4
        cases h4
        exact n'.ap j i l1 lb ds1 us a0 z1 hi h3 g1
      · exact n'.ap j j' l1 l2 ds1 es1 b z1 z2 h3 h4
  · rcases other j _ h1 with ⟨_, z1⟩ | ⟨_, z1⟩
    · cases z1
    · rcases other j' _ h2 with ⟨_, z2⟩ | ⟨_, z2⟩
      · cases z2
      · exact n'.ao j j' C D ks ls ds1 es1 z1 z2

/-! ### methods -/
theorem pe_methU {pl : Sem Bool} (hr : Room l X.A) (tk : Takes X W)
    (hst : starEach (e :: es) X.env = (false, eval e X.env) :: starEach es X.env := by rfl) (hpl : (backTo pos (starEach es X.env)).any (·.1) = false := by rfl)
    (ht : eval (.Call (.Attribute o m apos) (e :: es) [] pos) X.env = (do
      let ov ← eval o X.env
      standAt apos.atName
      let (f, first) ← holding [ov] (getMethod ov m pl)
      callWith pos f first (backTo pos (starEach (e :: es) X.env)) (backToKw pos (keywordEach [] X.env))) := by rfl) :
    PE X (.Call (.Attribute o m apos) (e :: es) [] pos) (fun σ H Q => tU X W o σ H fun v H1 => ∃ (a C dx : Addr) (fs : List (Str × V)) (dd : List V) (s : DSp), v = .ref a ∧ H1 a = some (.ins C dx fs) ∧ Cls X.K C ∧ Mg X.prog X.w X.K X.mg X.base C m l dd s ∧ fs.lookup m = none ∧
      tUA X W (e :: es) σ H1 fun vs H2 => lift X.K s (v :: (vs ++ dd)) H2 Q (L2.WE W σ)) := by
  refine ⟨fun pins s σ H Q I h => ?_⟩
  refine PySem.W.methodCall_KW (pl := pl) (thn ((pe_U (W := W)).run pins s σ H _ I h) fun u s1 ⟨v, H1, I1, rx, a, C, dx, fs, dd, sp, ex, ea, cl, G, lk, q⟩ => ?_) ht
  subst ex
  obtain rfl : u = Value.ref a := rx
  obtain ⟨f, fd, ps, ds, F, hm, hb, hd⟩ := G.ex
  refine getmeth_ok I1 ea cl hm lk ?_
  refine PySem.W.callWith_K (first := [.ref a]) (h₀ := X.base) I.ok.mod.kin hm.kp (thn ((pa_U (W := W)).run pos pins s1 σ H1 _ I1 q) fun us s2 ⟨vs, H2, I2, r, q2⟩ => ⟨I2.kIn, ?_⟩) hst hpl
  exact run_fnSD (us := .ref a :: us) (vs := .ref a :: vs) F hr hb hd (passAt tk σ) I2 (.cons rfl r) q2
theorem pe_methU0 {pl : Sem Bool} (hr : Room l X.A) (tk : Takes X W)
    (ht : eval (.Call (.Attribute o m apos) [] [] pos) X.env = (do
      let ov ← eval o X.env
      standAt apos.atName
      let (f, first) ← holding [ov] (getMethod ov m pl)
      callWith pos f first (backTo pos (starEach [] X.env)) (backToKw pos (keywordEach [] X.env))) := by rfl) :
    PE X (.Call (.Attribute o m apos) [] [] pos) (fun σ H Q => tU X W o σ H fun v H1 => ∃ (a C dx : Addr) (fs : List (Str × V)) (dd : List V) (s : DSp), v = .ref a ∧ H1 a = some (.ins C dx fs) ∧ Cls X.K C ∧ Mg X.prog X.w X.K X.mg X.base C m l dd s ∧ fs.lookup m = none ∧
      lift X.K s (v :: dd) H1 Q (L2.WE W σ)) := by
  refine ⟨fun pins s σ H Q I h => ?_⟩
  refine PySem.W.methodCall_KW (pl := pl) (thn ((pe_U (W := W)).run pins s σ H _ I h) fun u s1 ⟨v, H1, I1, rx, a, C, dx, fs, dd, sp, ex, ea, cl, G, lk, q⟩ => ?_) ht
  subst ex
  obtain rfl : u = Value.ref a := rx
  obtain ⟨f, fd, ps, ds, F, hm, hb, hd⟩ := G.ex
  refine getmeth_ok I1 ea cl hm lk ?_
  exact PySem.W.callWith_K0 (first := [.ref a]) I1.kIn hm.kp (run_fnSD (us := [.ref a]) (vs := [.ref a]) F hr hb hd (passAt tk σ) I1 (.cons rfl .nil) q)
theorem we_meth {pl : Sem Bool} (hr : Room l X.A) (tk : Takes X W) (h : WE X W R o ρ fun d ρ' => ∃ C ks ds dd s, d = .ins C ks ds ∧ Cls X.K C ∧ Mg X.prog X.w X.K X.mg X.base C m l dd s ∧ m ∉ ks ∧
      WA X W R (e :: es) ρ' fun as ρ'' => s (d :: (as ++ dd.map Dat.v)) (fun d => P d ρ'') (fun C => R C ρ''))
    (hst : starEach (e :: es) X.env = (false, eval e X.env) :: starEach es X.env := by rfl) (hpl : (backTo pos (starEach es X.env)).any (·.1) = false := by rfl)
    (ht : eval (.Call (.Attribute o m apos) (e :: es) [] pos) X.env = (do
      let ov ← eval o X.env
      standAt apos.atName
      let (f, first) ← holding [ov] (getMethod ov m pl)
      callWith pos f first (backTo pos (starEach (e :: es) X.env)) (backToKw pos (keywordEach [] X.env))) := by rfl) : WE X W R (.Call (.Attribute o m apos) (e :: es) [] pos) ρ P :=
  .of (pe_methU (pl := pl) hr tk hst hpl ht) fun σ na F0 H0 F H Q c n xo q => ⟨ρ, _, R, na, F0, H0, F, h, c, n, xo, fun d v ρ' F' H' c' n' hd ⟨C, ks, ds, dd, sp, e0, cl, G, hk, p⟩ => by
    subst e0
    cases hd with
    | ins ha hz hs =>
      refine ⟨_, C, _, _, dd, sp, rfl, c'.fh _ _ ha, cl, G, lookup_no hk _, ρ', _, R, na, F', H0, F', p, c'.re, n', xo.re c', fun as vs ρ'' F'' H'' c'' n'' hi hsp => ?_⟩
      exact lift_go (ds := .ins C ks ds :: as) (vs := .ref _ :: vs) (dd := dd) hsp (.cons ((Is.ins ha hz hs).mono c''.ff) hi) (c'.back c'') n'' xo q⟩
theorem we_meth0 {pl : Sem Bool} (hr : Room l X.A) (tk : Takes X W) (h : WE X W R o ρ fun d ρ' => ∃ C ks ds dd s, d = .ins C ks ds ∧ Cls X.K C ∧ Mg X.prog X.w X.K X.mg X.base C m l dd s ∧ m ∉ ks ∧ s (d :: dd.map Dat.v) (fun d => P d ρ') (fun C => R C ρ'))
    (ht : eval (.Call (.Attribute o m apos) [] [] pos) X.env = (do
      let ov ← eval o X.env
      standAt apos.atName
      let (f, first) ← holding [ov] (getMethod ov m pl)
      callWith pos f first (backTo pos (starEach [] X.env)) (backToKw pos (keywordEach [] X.env))) := by rfl) : WE X W R (.Call (.Attribute o m apos) [] [] pos) ρ P :=
  .of (pe_methU0 (pl := pl) hr tk ht) fun σ na F0 H0 F H Q c n xo q => ⟨ρ, _, R, na, F0, H0, F, h, c, n, xo, fun d v ρ' F' H' c' n' hd ⟨C, ks, ds, dd, sp, e0, cl, G, hk, p⟩ => by
    subst e0
    cases hd with
    | ins ha hz hs =>
      refine ⟨_, C, _, _, dd, sp, rfl, c'.fh _ _ ha, cl, G, lookup_no hk _, ?_⟩
      exact lift_go (ds := [.ins C ks ds]) (vs := [.ref _]) (dd := dd) p (.cons (Is.ins ha hz hs) .nil) c' n' xo q⟩

/-! ### own operators -/
theorem cmp_back {Q : Value → Shared → Prop} {v : V} {u : Value} {s' : Shared} (r : RelV v u) (q : Q u s') : PySem.W.CmpBack Q u s' := by
  cases v with
  | non => cases (show u = Value.none from r); exact q
  | bl b => cases (show u = Value.bool b from r); exact q
  | int i => obtain ⟨t, e⟩ := (show ∃ t, u = Value.int i t from r); cases e; exact q
  | str x => obtain ⟨t, e⟩ := (show ∃ t, u = Value.str x t from r); cases e; exact q
  | byt x => obtain ⟨t, e⟩ := (show ∃ t, u = Value.bytes x t from r); cases e; exact q
  | flt x => obtain ⟨t, e⟩ := (show ∃ t, u = Value.float x t from r); cases e; exact q
  | ref a => cases (show u = Value.ref a from r); exact q
  | ty n => cases (show u = Value.type n from r); exact q
/-- what an own class has for its operators -/
structure OpC (K : PySem.W.Frag) (C : Addr) : Prop where
  cl : Cls K C
  sf : PySem.W.selfFirst K C = true
theorem od_own {op : Operator} {C : Addr} {ks : List Str} {ds : List Dat} {ks2 : List Str} {ds2 : List Dat} (G : Mg X.prog X.w X.K X.mg X.base C (PySem.dunder op.info.2) l [] s) (hc : PySem.W.selfFirst X.K C = true) (hr : Room l X.A) (tk : Takes X W)
    (hs : s [.ins C ks ds, .ins C ks2 ds2] (fun d => P d ρ) (fun C => R C ρ)) : OpD X W R (binaryOp op) (.ins C ks ds) (.ins C ks2 ds2) ρ P := by
  refine ⟨fun pins s0 σ na F0 H0 F H x y v u Q I c n xo h1 h2 r1 r2 q => ?_⟩
  have g1 := h1; have g2 := h2
  cases h1 with
  | ins ha hz hs1 =>
  cases h2 with
  | ins ha2 hz2 hs2 =>
  cases r1
  cases r2
  obtain ⟨f, fd, ps, dv, Fn, hm, hb, hd⟩ := G.ex
  cases hd
  obtain ⟨mA, J, _⟩ := ins_get I.hok (c.fh _ _ ha)
  obtain ⟨mB, J', _⟩ := ins_get I.hok (c.fh _ _ ha2)
  obtain ⟨od, J, _⟩ := J.look
  obtain ⟨od', J', _⟩ := J'.look
  obtain ⟨mm, hF⟩ := I.fr
  refine PySem.W.binop_K hF I.ok.mod.kin J J'.type hc hm.at_ hm.fn ?_
  refine wpAny_mono (run_fnSD (vs := [.ref _, .ref _]) (us := [.ref _, .ref _]) Fn hr hb .nil (passAt tk σ) I (.cons rfl (.cons rfl .nil)) (lift_go (dd := []) (ds := [.ins C ks ds, .ins C ks2 ds2]) (vs := [.ref _, .ref _]) hs (.cons g1 (.cons g2 .nil)) c n xo q)) (fun v s' z => ?_) fun _ _ e => e
  obtain ⟨v', H', I', rv, qq⟩ := z
  have ok : EP X pins σ Q v s' := ⟨v', H', I', rv, qq⟩
  exact cmp_back rv ok
/-- the other side of another own class with the operator -/
theorem od_own2 {op : Operator} {C D g : Addr} {ks : List Str} {ds : List Dat} {ks2 : List Str} {ds2 : List Dat} (G : Mg X.prog X.w X.K X.mg X.base C (PySem.dunder op.info.2) l [] s) (hc : PySem.W.selfFirst X.K C = true) (hcd : PySem.W.selfFirst X.K D = true) (hne : C ≠ D)
    (h1 : PySem.W.findIn X.K (.ref C) (PySem.dunderR op.info.2) = some none) (h2 : PySem.W.findIn X.K (.ref D) (PySem.dunder op.info.2) = some (some (.ref g))) (h3 : PySem.W.findIn X.K (.ref D) (PySem.dunderR op.info.2) = some none) (h4 : PySem.W.subIn X.K (.ref D) (.ref C) = some false)
    (hr : Room l X.A) (tk : Takes X W) (hs : s [.ins C ks ds, .ins D ks2 ds2] (fun d => P d ρ) (fun C => R C ρ)) : OpD X W R (binaryOp op) (.ins C ks ds) (.ins D ks2 ds2) ρ P := by
  refine ⟨fun pins s0 σ na F0 H0 F H x y v u Q I c n xo i1 i2 r1 r2 q => ?_⟩
  have g1 := i1; have g2 := i2
  cases i1 with
  | ins ha hz hs1 =>
  cases i2 with
  | ins ha2 hz2 hs2 =>
  cases r1
  cases r2
  obtain ⟨f, fd, ps, dv, Fn, hm, hb, hd⟩ := G.ex
  cases hd
  obtain ⟨mA, J, _⟩ := ins_get I.hok (c.fh _ _ ha)
  obtain ⟨mB, J', _⟩ := ins_get I.hok (c.fh _ _ ha2)
  obtain ⟨od, J, _⟩ := J.look
  obtain ⟨od', J', _⟩ := J'.look
  obtain ⟨mm, hF⟩ := I.fr
  refine PySem.W.sf_bin2 hF I.ok.mod.kin J J'.type hne hc hcd hm.at_ hm.fn h1 (.inl rfl) h2 h3 (.inl rfl) h4 ?_
  refine wpAny_mono (run_fnSD (vs := [.ref _, .ref _]) (us := [.ref _, .ref _]) Fn hr hb .nil (passAt tk σ) I (.cons rfl (.cons rfl .nil)) (lift_go (dd := []) (ds := [.ins C ks ds, .ins D ks2 ds2]) (vs := [.ref _, .ref _]) hs (.cons g1 (.cons g2 .nil)) c n xo q)) (fun v s' z => ?_) fun _ _ e => e
  obtain ⟨v', H', I', rv, qq⟩ := z
  exact cmp_back rv ⟨v', H', I', rv, qq⟩
/-- -a of an own class -/
theorem we_negO (hr : Room l X.A) (tk : Takes X W) (h : WE X W R a ρ fun d ρ' => ∃ C ks ds s, d = .ins C ks ds ∧ Mg X.prog X.w X.K X.mg X.base C "__neg__" l [] s ∧ s [d] (fun d => P d ρ') (fun C => R C ρ')) : WE X W R (.UnaryOp .USub a pos) ρ P := by
  refine ⟨fun pins s0 σ na F0 H0 F H Q I c n xo q => ?_⟩
  refine PyProof.Rows.UnaryOp_ (thn (h.run pins s0 σ na F0 H0 F H (fun x H1 => ∃ d ρ1 F1, Cur na F0 H0 F1 H1 ∧ Env1 X.K ρ1 σ na H0 F1 H1 ∧ Is X.K d x F1 ∧ ∃ C ks ds s, d = .ins C ks ds ∧ Mg X.prog X.w X.K X.mg X.base C "__neg__" l [] s ∧ s [d] (fun d => P d ρ1) (fun C => R C ρ1)) I c n xo fun d v ρ' F' H' c' n' hd p => ⟨d, ρ', F', c', n', hd, p⟩) fun v s1 ⟨x, H1, I1, r1, d, ρ1, F1, c1, n1, h1, C, ks, ds, sp, e0, G, hs⟩ => ?_)
  subst e0
  have g1 := h1
  cases h1 with
  | ins ha hz hs1 =>
  cases r1
  obtain ⟨f, fd, ps, dv, Fn, hm, hb, hd⟩ := G.ex
  cases hd
  obtain ⟨mA, J, _⟩ := ins_get I1.hok (c1.fh _ _ ha)
  obtain ⟨od, J, _⟩ := J.look
  obtain ⟨mm, hF⟩ := I1.fr
  exact PySem.W.ksp_neg hF I1.ok.mod.kin J hm.at_ hm.fn (run_fnSD (vs := [.ref _]) (us := [.ref _]) Fn hr hb .nil (passAt tk σ) I1 (.cons rfl .nil) (lift_go (dd := []) (ds := [.ins C ks ds]) (vs := [.ref _]) hs (.cons g1 .nil) c1 n1 xo q))

/-! ### == and != by an own __eq__ -/
theorem run_in1 {pins : List (Addr × Obj)} {σ : L2.St} {H : Hp} {s0 : Shared} {Q : VK} {us : List Value} {vs : List V} {f : Addr} {fd : FuncData} {ps : List Str} {sp : Sp} (F : FnOk X.prog X.w X.K X.mg X.base (L2.CX X.prog X.w) l f fd ps sp) (hr : Room l X.A.in1) (hb : Binds X.K fd ps []) (tk : Takes X W)
    (I : Inv X pins σ H s0) (r : Vals vs us) (h : sp vs H Q (L2.WE W σ)) : wpAny (model X.prog X.w) X.A.in1 (call (.ref f) us) (EP X pins σ Q) X.xe s0 := by
  have hl : us.length = ps.length := by rw [← r.length]; exact F.len _ _ _ _ h
  have b := hb s0 us I.kIn (by rw [List.append_nil]; exact hl)
  rw [List.append_nil] at b
  refine wpAny_call (codeAny_mono (F.run X.A.in1 X.stack s0 H ⟨us, []⟩ us vs Q (L2.WE W σ) hr I.env0.in1 b r h) fun r s' hq => ?_)
  cases r with
  | error e => exact passAt tk σ pins H s0 e s' I hq
  | ok fl =>
    cases fl with
    | ret u => exact I.after hq
    | next => exact False.elim hq
    | brk => exact False.elim hq
    | cont => exact False.elim hq
/-- the type of a datum, as the deciders take it -/
inductive TyD (K : PySem.W.Frag) : Dat → Value → Prop where
  | non : TyD K dN (.type "NoneType")
  | bl (b : Bool) : TyD K (dB b) (.type "bool")
  | int (i : Int) : TyD K (dI i) (.type "int")
  | str (x : Str) : TyD K (dS x) (.type "str")
  | lst (ds : List Dat) : TyD K (.lst ds) (.type "list")
  | tup (ds : List Dat) : TyD K (.tup ds) (.type "tuple")
  | ins (C : Addr) (ks : List Str) (ds : List Dat) : TyD K (.ins C ks ds) (.ref C)
theorem TyD.looks {M : Model} {s : Shared} {pins : List (Addr × Obj)} {σ : L2.St} {F H : Hp} {d : Dat} {t u : Value} {x : V} (ty : TyD X.K d t) (I : Inv X pins σ H s) (e : Ex F H) (h : Is X.K d x F) (r : RelV x u) : PySem.W.Looks M s.heap (typeOf u) t := by
  cases ty with
  | non => cases is_v h; cases (show u = Value.none from r); exact PySem.W.Looks.of_pure rfl
  | bl b => cases is_v h; cases (show u = Value.bool b from r); exact PySem.W.Looks.of_pure rfl
  | int i => cases is_v h; obtain ⟨t, z⟩ := (show ∃ t, u = Value.int i t from r); cases z; exact PySem.W.Looks.of_pure rfl
  | str i => cases is_v h; obtain ⟨t, z⟩ := (show ∃ t, u = Value.str i t from r); cases z; exact PySem.W.Looks.of_pure rfl
  | lst ds =>
    cases h with
    | lst ha hs =>
      cases r
      rcases e.sql ha with (h | ⟨o, h⟩) | ⟨o, its, n, h1, h2, _⟩
      · obtain ⟨_, _, n, _, h1⟩ := (show ObjOk X.prog X.w H s.heap _ (.lst _) from I.hok _ _ h)
        exact fun A Q E s' k q => wpAny_typeOf_ref (k _ _ h1) q
      · obtain ⟨_, _, _, n, _, h1⟩ := (show ObjOk X.prog X.w H s.heap _ (.frz _ (.lst _)) from I.hok _ _ h)
        exact fun A Q E s' k q => wpAny_typeOf_ref (k _ _ h1) q
      · exact fun A Q E s' k q => wpAny_typeOf_ref (k _ _ (I.kIn _ _ h1)) (by rw [h2]; exact q)
  | tup ds =>
    cases h with
    | tup ha hs =>
      cases r
      obtain ⟨its, _, ⟨o, h1, h2, _⟩, _⟩ := I.tuple (e.sqt ha)
      exact fun A Q E s' k q => wpAny_typeOf_ref (k _ _ h1) (by rw [h2]; exact q)
  | ins C ks ds =>
    cases h with
    | ins ha hz hs =>
      cases r
      obtain ⟨mA, J, _⟩ := ins_get I.hok (e _ _ ha)
      obtain ⟨od, J, _⟩ := J.look
      exact J.type
theorem od_eqO {C : Addr} {ks : List Str} {ds : List Dat} {d2 : Dat} {t : Value} (G : Mg X.prog X.w X.K X.mg X.base C "__eq__" l [] s) (hr : Room l X.A) (tk : Takes X W) (ty : TyD X.K d2 t) (hn : PySem.W.notFirst X.K C t = true)
    (hs : s [.ins C ks ds, d2] (fun d => P d ρ) (fun C => R C ρ)) : OpD X W R (compareOp .Eq) (.ins C ks ds) d2 ρ P := by
  refine ⟨fun pins s0 σ na F0 H0 F H x y v u Q I c n xo i1 i2 r1 r2 q => ?_⟩
  have g1 := i1
  cases i1 with
  | ins ha hz hs1 =>
  cases r1
  obtain ⟨f, fd, ps, dv, Fn, hm, hb, hd⟩ := G.ex
  cases hd
  obtain ⟨mA, J, _⟩ := ins_get I.hok (c.fh _ _ ha)
  obtain ⟨od, J, _⟩ := J.look
  obtain ⟨mm, hF⟩ := I.fr
  show wpAny (model X.prog X.w) X.A (richCompare .Eq (.ref _) u) (EP X pins σ Q) X.xe s0
  refine PySem.W.cmp_K (op := .Eq) hr.units0 hF I.ok.mod.kin J (ty.looks I c.fh i2 r2) hn hm.at_ hm.fn ?_
  refine wpAny_mono (run_fnSD (vs := [.ref _, y]) (us := [.ref _, u]) Fn hr hb .nil (passAt tk σ) I (.cons rfl (.cons r2 .nil)) (lift_go (dd := []) (ds := [.ins C ks ds, d2]) (vs := [.ref _, y]) hs (.cons g1 (.cons i2 .nil)) c n xo q)) (fun v s' z => ?_) fun _ _ e => e
  obtain ⟨v', H', I', rv, qq⟩ := z
  exact cmp_back rv ⟨v', H', I', rv, qq⟩
theorem od_neO {C : Addr} {ks : List Str} {ds : List Dat} {d2 : Dat} {t : Value} (G : Mg X.prog X.w X.K X.mg X.base C "__eq__" l [] s) (hr : Room (l + 1) X.A) (tk : Takes X W) (ty : TyD X.K d2 t) (hn : PySem.W.notFirst X.K C t = true)
    (hne : PySem.W.findIn X.K (.ref C) "__ne__" = some (some (.builtin "object.__ne__"))) (ho : PySem.W.subIn X.K (.ref C) (.type "object") = some true)
    (hs : s [.ins C ks ds, d2] (fun d => ∃ b, d = dB b ∧ P (dB (!b)) ρ) (fun C => R C ρ)) : OpD X W R (compareOp .NotEq) (.ins C ks ds) d2 ρ P := by
  refine ⟨fun pins s0 σ na F0 H0 F H x y v u Q I c n xo i1 i2 r1 r2 q => ?_⟩
  have g1 := i1
  cases i1 with
  | ins ha hz hs1 =>
  cases r1
  obtain ⟨f, fd, ps, dv, Fn, hm, hb, hd⟩ := G.ex
  cases hd
  obtain ⟨mA, J, _⟩ := ins_get I.hok (c.fh _ _ ha)
  obtain ⟨od, J, _⟩ := J.look
  obtain ⟨mm, hF⟩ := I.fr
  show wpAny (model X.prog X.w) X.A (richCompare .NotEq (.ref _) u) (EP X pins σ Q) X.xe s0
  refine PySem.W.sf_ne (by have := hr.un; omega) hF I.ok.mod.kin J (ty.looks I c.fh i2 r2) hn hne hm.at_ hm.fn ho ?_
  have z1 : lift X.K s ([.ref _, y] ++ []) H (fun v H' => ∃ b, v = .bl b ∧ Q (.bl (!b)) H') (L2.WE W σ) :=
    lift_go (dd := []) (P := fun d ρ' => ∃ b, d = dB b ∧ P (dB (!b)) ρ') (ds := [.ins C ks ds, d2]) hs (.cons g1 (.cons i2 .nil)) c n xo fun d v ρ' F' H' c' n' hd ⟨b, e, p⟩ => by
      subst e
      exact ⟨b, is_v hd, q _ _ ρ' F' H' c' n' .v p⟩
  refine wpAny_mono (run_in1 (vs := [.ref _, y]) (us := [.ref _, u]) Fn hr.in1 hb tk I (.cons rfl (.cons r2 .nil)) z1) (fun v s' z => ?_) fun _ _ e => e
  obtain ⟨v', H', I', rv, b, e, qq⟩ := z
  subst e
  cases rv
  exact ⟨b, rfl, .bl (!b), H', I', rfl, qq⟩
end
end Sf
namespace Sf
open PySem L2

section
variable {X : Cx} {W : WX} {R : RX} {e a b c o : Expr} {es : List Expr} {st : Stmt} {sts rest : List Stmt} {ρ : List Sl} {P : PD} {k : Kn} {pos pos' p apos : Pos} {x m : Str} {l : Nat} {dd : List V} {s : DSp}

/-! ### C(..) -/
theorem we_make {C : Addr} (G : Kg X.prog X.w X.K X.mg X.base x C l dd s) (hr : Room (l + 1) X.A) (tk : Takes X W) (h : WA X W R (e :: es) ρ fun ds ρ' => s (ds ++ dd.map Dat.v) (fun d => P d ρ') (fun C => R C ρ'))
    (hg : Gl X x := by rfl) (hdb : (x == ("__debug__" : Str)) = false := by decide) (he : starEach (e :: es) X.env = (false, eval e X.env) :: starEach es X.env := by rfl) (hpl : (backTo pos (starEach es X.env)).any (·.1) = false := by rfl) : WE X W R (.Call (.Name x p) (e :: es) [] pos) ρ P := by
  obtain ⟨f, fd, ps, dv, Fn, M, hm, hb, hd⟩ := G.ex
  refine ⟨fun pins s0 σ na F0 H0 F H Q I c n xo q => ?_⟩
  refine wpAny_Call_Name_kw (ld_glob I hg hm ?_ hdb)
  refine PySem.W.callWith_K (h₀ := X.base) I.ok.mod.kin M.kp (thn (h.run pos pins s0 σ na F0 H0 F H (fun vs H1 => ∃ ds ρ1 F1, Cur na F0 H0 F1 H1 ∧ Env1 X.K ρ1 σ na H0 F1 H1 ∧ Isl X.K ds vs F1 ∧ s (ds ++ dd.map Dat.v) (fun d => P d ρ1) (fun C => R C ρ1)) I c n xo fun ds vs ρ' F' H' c' n' hi hs => ⟨ds, ρ', F', c', n', hi, hs⟩) fun us s1 hh => ?_) he hpl
  obtain ⟨vs, H1, I1, r, ds, ρ1, F1, c1, n1, hi, hs⟩ := hh
  refine ⟨I1.kIn, ?_⟩
  -- the new object and its dict
  have hx1 : H1 (s1.heap.objs.size + 1) = none := I1.hok.fresh (Nat.le_succ _)
  have hx0 : H1 s1.heap.objs.size = none := I1.hok.fresh (Nat.le_refl _)
  have hne : s1.heap.objs.size ≠ s1.heap.objs.size + 1 := Nat.ne_of_lt (Nat.lt_succ_self _)
  have I2 := Inv.made (C := C) I1
  generalize ex : s1.heap.objs.size + 1 = x0 at hx1 hne
  generalize ed : s1.heap.objs.size = dx at hx0 hne
  have HX : upd (upd H1 dx (.own x0)) x0 (.ins C dx []) x0 = some (.ins C dx []) := upd_same
  have st : Ex H1 (upd (upd H1 dx (.own x0)) x0 (.ins C dx [])) := fun q0 o hq0 => by
    rw [upd_ne (ne_of_none hq0 hx1), upd_ne (ne_of_none hq0 hx0)]
    exact hq0
  have fx : F1 x0 = none := fnone c1.fh hx1
  have r2 : Vals (V.ref x0 :: (vs ++ dd)) (Value.ref x0 :: (us ++ dv)) := .cons rfl (r.append hd)
  have key : liftI X.K C s (.ref x0 :: (vs ++ dd)) (upd (upd H1 dx (.own x0)) x0 (.ins C dx [])) (fun v H2 => v = .non ∧ Q (.ref x0) H2) (L2.WE W σ) := by
    refine ⟨x0, dx, vs ++ dd, F1, _, _, _, rfl, HX, c1.fh.trans st, fx, hi.append (isl_v dd), hs, fun ks es' ws dy F' H' c' hp hl hi' hP => ⟨rfl, ?_⟩, fun D F' H' c' hR => ?_⟩
    · have fx' : F' x0 = none := (c'.lv x0 rfl).2
      have stp : Stp F1 H1 (upd F' x0 (.ins C dy (ks.zip ws))) H' := by
        refine ⟨fun q0 o hq0 => ?_, fun q0 o hq0 => ?_, fun q0 o hq0 => ?_, fun q0 o h1 h2 => ?_⟩
        · rw [upd_ne (ne_of_none (c'.ff _ _ hq0) fx')]
          exact c'.ff _ _ hq0
        · exact c'.hh q0 o (fun z => ne_of_none hq0 hx1 (Option.some.inj z).symm) (st _ _ hq0)
        · by_cases z : q0 = x0
          · subst z; rw [upd_same] at hq0; cases hq0; exact hp
          · rw [upd_ne z] at hq0; exact c'.fh _ _ hq0
        · rw [upd_ne (ne_of_none h1 hx1)]
          exact c'.pr q0 o (st _ _ h1) h2
      exact q _ (.ref x0) ρ1 _ H' (c1.stp stp) (n1.stp stp) (.ins upd_same hl (hi'.mono fun q0 o hq0 => by rw [upd_ne (ne_of_none hq0 fx')]; exact hq0)) hP
    · have stp : Stp F1 H1 F' H' := ⟨c'.ff, fun q0 o hq0 => c'.hh q0 o (fun z => ne_of_none hq0 hx1 (Option.some.inj z).symm) (st _ _ hq0), c'.fh, fun q0 o h1 h2 => c'.pr q0 o (st _ _ h1) h2⟩
      exact xo D ρ1 σ F' H' (c1.stp stp) (n1.stp stp) hR
  have hl : (Value.ref x0 :: us ++ dv).length = ps.length := by
    have e0 := r2.length
    rw [Fn.len _ _ _ _ key] at e0
    exact e0.symm
  subst ex
  subst ed
  refine wpAny_call (make_map (f := f) I1.kIn M.makes M.init (beq_iff_eq.mp M.fn) (codeAny_mono (Fn.run _ X.stack _ _ ⟨_ :: us, []⟩ (_ :: (us ++ dv)) _ _ (L2.WE W σ) (hr.make C us []) (I2.env0.make C us []) (hb _ (_ :: us) I2.kIn hl) r2 key) fun r0 s' hq' => ?_))
  cases r0 with
  | error e => exact passAt tk σ pins _ _ e s' I2 hq'
  | ok fl =>
    cases fl with
    | ret u =>
      obtain ⟨v, H', I3, rv, ev, q3⟩ := I2.after hq'
      subst ev
      exact ⟨rv, ⟨V.ref (s1.heap.objs.size + 1), H', I3, rfl, q3⟩⟩
    | next => exact False.elim hq'
    | brk => exact False.elim hq'
    | cont => exact False.elim hq'

/-! ### self.f = e, while self is made -/
theorem zip_put {f : Str} {v : V} : ∀ {ks : List Str} {vs : List V}, f ∉ ks → ks.length = vs.length → putF f v (ks.zip vs) = (ks ++ [f]).zip (vs ++ [v])
  | [], [], _, _ => rfl
  | [], _ :: _, _, h => by cases h
  | _ :: _, [], _, h => by cases h
  | g :: ks, w :: vs, hn, hl => by
    have h1 : ¬ g = f := fun z => hn (z ▸ List.mem_cons_self)
    show (if g = f then (g, v) :: ks.zip vs else (g, w) :: putF f v (ks.zip vs)) = (g, w) :: (ks ++ [f]).zip (vs ++ [v])
    rw [if_neg h1, zip_put (fun z => hn (List.mem_cons_of_mem _ z)) (by simpa using hl)]
theorem ws_fld (i : Nat) {f x1 : Str} {p1 : Pos} (hN : X.N[i]? = some x1 := by rfl) (h : WE X W R e ρ fun d ρ' => ∃ C ks ds, ρ'[i]? = some (.ob C ks ds) ∧ Cls X.K C ∧ NoAttr X.K C f ∧ f ∉ ks ∧ ks.length < 900 ∧ k.nx (ρ'.set i (.ob C (ks ++ [f]) (ds ++ [d]))))
    (hv : Vis X.env.scope x1 := by first | exact Or.inl rfl | exact Or.inr (Or.inl rfl) | exact Or.inr (Or.inr rfl)) (hd : (x1 == ("__debug__" : Str)) = false := by decide)
    (hcd : (x1 == ("__classdict__" : Str)) = false := by decide) (hs : swapsWith e (some (.Attribute (.Name x1 p1) f pos')) pos.line X.env = pure false := by rfl) : WS X W R (.Assign [.Attribute (.Name x1 p1) f pos'] e pos) ρ k :=
  .of (ps_fld (pe_var hN hv hd hcd) (pe_U (W := W)) hs) fun σ na F0 H0 F H D c n xo q => ⟨ρ, _, R, na, F0, H0, F, h, c, n, xo, fun d v ρ' F' H' c' n' hd ⟨C, ks, ds, hi, hc, hn, hf, h9, p⟩ => by
    obtain ⟨a0, dx, vs, g1, g2, g3, g4, g5, g6⟩ := n'.ob i C ks ds hi
    refine ⟨_, g1, a0, C, dx, _, rfl, g4, hc, hn, ?_, ?_⟩
    · rw [List.length_zip, g5, Nat.min_self, ← g5]; omega
    · rw [zip_put hf g5]
      have hlen : i < ρ'.length := (List.getElem?_eq_some_iff.mp hi).1
      have other : ∀ (j : Nat) (t : Sl), (ρ'.set i (.ob C (ks ++ [f]) (ds ++ [d])))[j]? = some t → (i = j ∧ t = .ob C (ks ++ [f]) (ds ++ [d])) ∨ (i ≠ j ∧ ρ'[j]? = some t) := fun j t ht => by
        by_cases q0 : i = j
        · subst q0
          rw [List.getElem?_set_self hlen] at ht
          exact .inl ⟨rfl, (Option.some.inj ht).symm⟩
        · rw [List.getElem?_set_ne q0] at ht
          exact .inr ⟨q0, ht⟩
      have cc : Cur na F0 H0 F' (upd H' a0 (.ins C dx ((ks ++ [f]).zip (vs ++ [v])))) := by
        refine ⟨c'.ff, fun b u nb hb => ?_, fun b u hb => ?_, c'.pr, fun b hb => ?_, c'.nz⟩
        · rw [upd_ne (fun z => nb (by rw [g2, z]))]; exact c'.hh b u nb hb
        · rw [upd_ne (ne_of_none hb g3)]; exact c'.fh b u hb
        · have : b = a0 := Option.some.inj (hb.symm.trans g2)
          subst this
          exact ⟨⟨_, upd_same⟩, g3⟩
      refine q.nx _ σ F' _ cc ⟨fun j d' h1 => ?_, fun j l' ds' h1 => ?_, fun j C' ks' ds' h1 => ?_, fun j j' l1 l2 ds1 es1 b0 h1 h2 h3 h4 => ?_, fun j j' C1 D1 ks1 ls1 ds1 es1 h1 h2 => ?_, by rw [List.length_set]; exact n'.ln⟩ p
      · rcases other j _ h1 with ⟨_, z⟩ | ⟨_, z⟩
        · cases z
        · exact n'.pu j d' z
      · rcases other j _ h1 with ⟨_, z⟩ | ⟨q0, z⟩
        · cases z
        · obtain ⟨b, ws', y1, y2, y3, y4, y5, y6⟩ := n'.ow j l' ds' z
          refine ⟨b, ws', y1, y2, ?_, y4, y5, y6⟩
          rw [upd_ne (fun z' => by subst z'; rw [g4] at y3; cases y3)]
          exact y3
      · rcases other j _ h1 with ⟨e1, z⟩ | ⟨q0, z⟩
        · subst e1
          cases z
          exact ⟨a0, dx, vs ++ [v], g1, g2, g3, upd_same, by simp [g5], g6.append (.cons hd .nil)⟩
        · obtain ⟨b, dx', ws', y1, y2, y3, y4, y5, y6⟩ := n'.ob j C' ks' ds' z
          exact absurd (n'.ao i j C C' ks ks' ds ds' hi z) q0
      · rcases other j _ h1 with ⟨e1, z1⟩ | ⟨q1, z1⟩
        · cases z1
        · rcases other j' _ h2 with ⟨e2, z2⟩ | ⟨q2, z2⟩
          · cases z2
          · exact n'.ap j j' l1 l2 ds1 es1 b0 z1 z2 h3 h4
      · have w : ∀ {j : Nat} {C1 : Addr} {ks1 : List Str} {ds1 : List Dat}, (ρ'.set i (.ob C (ks ++ [f]) (ds ++ [d])))[j]? = some (.ob C1 ks1 ds1) → j = i := fun {j C1 ks1 ds1} h1 => by
          rcases other j _ h1 with ⟨e1, z1⟩ | ⟨q1, z1⟩
          · exact e1.symm
          · exact n'.ao j i C1 C ks1 ks ds1 ds z1 hi
        rw [w h1, w h2]⟩
end
end Sf
namespace Sf
open PySem L2

section
variable {X : Cx} {W : WX} {R : RX} {e a b c o : Expr} {es : List Expr} {st : Stmt} {sts rest body : List Stmt} {ρ : List Sl} {P : PD} {k : Kn} {pos pos' p apos : Pos} {x m : Str} {l : Nat} {dd : List V} {s : DSp}

/-! ### raise C('..'), try .. except C: .. -/
structure ExcF (K : PySem.W.Frag) (mg : Str → Option Value) (x : Str) (C : Addr) : Prop where
  g : mg x = some (.ref C)
  ex : ∃ bm, PySem.W.excIn K C bm "ValueError.__new__" = true ∧ bm = He.veBase
  kp : PySem.W.keepIn K (.ref C) = true
  sub : PySem.W.subIn K (.ref C) (.type "BaseException") = some true
  ty : PySem.W.typeIn K (.ref C) = some (.type "type")
theorem ws_raise {C : Addr} {z : Str} {j : Nat} {p2 : Pos} (T : ExcF X.K X.mg x C) (hc : X.calm = true) (tk : Takes X W) (hr : R C ρ) (hg : Gl X x := by rfl) (hdb : (x == ("__debug__" : Str)) = false := by decide) :
    WS X W R (.Raise (some (.Call (.Name x p) [.Constant (.str z) j p2] [] pos)) none pos') ρ k := by
  obtain ⟨bm, q, rfl⟩ := T.ex
  exact .of (ps_raise hc tk (pmk_own PySem.F.excBase_ValueError q T.g T.kp (raises_own T.sub T.ty) hg hdb)) fun σ na F0 H0 F H D c n xo _ => xo C ρ σ F H c n hr
/-- the wish of a try's body -/
def rTry (X : Cx) (W : WX) (R : RX) (cl : Value) (suite : List Stmt) (k : Kn) : RX := fun C ρ => ∃ t, PySem.W.exmOne X.K (.ref C) cl = some t ∧
  (t = true → ∀ (a : Addr) (oe : Obj) (pn : List (Addr × Obj)), WSs (X.suite a ((a, oe) :: pn)) (fun _ _ _ _ => False) (fun _ _ => False) suite ρ k) ∧ (t = false → R C ρ)
theorem ws_try {cl : Value} {b₀ : Stmt} {suite : List Stmt} {np : Pos} (hs : X.stack = X.env :: X.outer) (hf : X.env.frame = some X.env.locals) (hc : Names X x cl) (tk : Takes X W)
    (hb : ∀ (W' : WX) (pn : List (Addr × Obj)) (xe : Value → Shared → Prop), Takes (X.tr pn xe) W' → PassesOwn (model X.prog X.w) X.A X.env xe → WSs (X.tr pn xe) W' (rTry X W R cl (b₀ :: suite) k) body ρ k) :
    WS X W R (.Try body [.ExceptHandler (some (.Name x np)) none (b₀ :: suite) pos'] [] [] pos) ρ k := by
  let ts : Addr → Value → Option Addr → TS := fun a cls d => fun D σ H => ∃ ρ' na F0 H0 F, (∀ (oe : Obj) (pn : List (Addr × Obj)), WSs (X.suite a ((a, oe) :: pn)) (fun _ _ _ _ => False) (fun _ _ => False) (b₀ :: suite) ρ' k) ∧ Cur na F0 H0 F H ∧ Env1 X.K ρ' σ na H0 F H ∧ KnOk X.K na F0 H0 k D
  let tb : WX → TS := fun W' D σ H => ∃ na F0 H0 F, (∀ (pn : List (Addr × Obj)) (xe : Value → Shared → Prop), Takes (X.tr pn xe) W' → PassesOwn (model X.prog X.w) X.A X.env xe → WSs (X.tr pn xe) W' (rTry X W R cl (b₀ :: suite) k) body ρ k) ∧ Cur na F0 H0 F H ∧ Env1 X.K ρ σ na H0 F H ∧ ExcOk X.K W' (rTry X W R cl (b₀ :: suite) k) na F0 H0 ∧ KnOk X.K na F0 H0 k D
  refine .of (ps_try_only (tb := tb) (ts := ts) (Wout := W) hs hf hc tk (fun W' pn xe tk' hp => ⟨fun pins s0 σ H D I h => ?_⟩) (fun a oe cls d pn _ _ => ⟨fun pins s0 σ H D I h => ?_⟩)) fun σ na F0 H0 F H D c n xo q => ?_
  · obtain ⟨na, F0, H0, F, hw, c, n, xo, q⟩ := h
    exact (hw pn xe tk' hp).run pins s0 σ na F0 H0 F H D I c n xo q
  · obtain ⟨ρ', na, F0, H0, F, hw, c, n, q⟩ := h
    exact (hw oe pn).run pins s0 σ na F0 H0 F H D I c n (fun _ _ _ _ _ _ _ z => z.elim) q
  · refine ⟨na, F0, H0, F, fun pn xe t2 hp => hb _ pn xe t2 hp, c, n, fun C ρ' σ' F' H' c' n' r => ?_, q⟩
    obtain ⟨t, h1, h2, h3⟩ := r
    exact ⟨t, h1, fun ht a _ => ⟨ρ', na, F0, H0, F', fun oe pn => h2 ht a oe pn, c', n', q⟩, fun ht => xo C ρ' σ' F' H' c' n' (h3 ht)⟩

/-! ### loops -/
theorem ws_while (hp : PassesOwn (model X.prog X.w) X.A X.env X.xe) (Iv : Nat → List Sl → Prop) (h0 : ∃ m, Iv m ρ)
    (hs : ∀ m ρ', Iv m ρ' → WT X W R c ρ' fun t ρ'' => (t = true → WSs X W R body ρ'' { k with nx := fun ρ3 => ∃ m', m' < m ∧ Iv m' ρ3, ct := fun ρ3 => ∃ m', m' < m ∧ Iv m' ρ3, bk := k.nx }) ∧ (t = false → k.nx ρ'')) : WS X W R (.While c body [] pos) ρ k :=
  .of (ps_while hp (pt_U (W := W)) (pss_U (W := W))) fun σ na F0 H0 F H D cu n xo q => by
    refine ⟨fun m σ' H' => ∃ ρ' F', Cur na F0 H0 F' H' ∧ Env1 X.K ρ' σ' na H0 F' H' ∧ Iv m ρ', ?_, fun m σ' H' hw => ?_⟩
    · obtain ⟨m, hm⟩ := h0
      exact ⟨m, ρ, F, cu, n, hm⟩
    · obtain ⟨ρ', F', c', n', hi⟩ := hw
      refine ⟨ρ', _, R, na, F0, H0, F', hs m ρ' hi, c', n', xo, fun t ρ'' F2 H2 c2 n2 p => ?_⟩
      cases t with
      | true =>
        refine iteT ⟨fun σ3 H3 => ∃ ρ3 F3, Cur na F0 H0 F3 H3 ∧ Env1 X.K ρ3 σ3 na H0 F3 H3 ∧ ∃ m', m' < m ∧ Iv m' ρ3, fun σ3 H3 ⟨ρ3, F3, c3, n3, m', hm, h3⟩ => ⟨m', hm, ρ3, F3, c3, n3, h3⟩, ?_⟩
        exact ⟨ρ'', _, R, na, F0, H0, F2, p.1 rfl, c2, n2, xo, ⟨fun ρ3 σ3 F3 H3 c3 n3 h => ⟨ρ3, F3, c3, n3, h⟩, q.rt, fun ρ3 σ3 F3 H3 c3 n3 h => q.nx ρ3 σ3 F3 H3 c3 n3 h, fun ρ3 σ3 F3 H3 c3 n3 h => ⟨ρ3, F3, c3, n3, h⟩, q.ro⟩⟩
      | false => exact iteF (q.nx _ _ _ _ c2 n2 (p.2 rfl))
/-- for name in range(n) -/
theorem ws_forR (i : Nat) {rp np : Pos} {y : Str} (hp : PassesOwn (model X.prog X.w) X.A X.env X.xe) (hc : X.calm = true) (hN : X.N.Nodup) (hm : X.mg "range" = none)
    (h : WA X W R [a] ρ fun ds ρ0 => ∃ (n : Int) (Iv : Nat → List Sl → Prop), ds = [dI n] ∧ -(2 ^ 62) ≤ n ∧ n < 2 ^ 62 ∧ Iv 0 ρ0 ∧
      (∀ (j : Nat) ρ', (j : Int) < n → Iv j ρ' → WSs X W R body (ρ'.set i (.pu (dI j))) { k with nx := Iv (j + 1), ct := Iv (j + 1), bk := k.nx }) ∧ ∀ ρ', Iv n.toNat ρ' → k.nx ρ')
    (hi : X.N[i]? = some y := by rfl) (hx : Loc X.env.scope y := by first | exact Or.inl rfl | exact Or.inr rfl) (hf : X.fn y = true ∨ X.env.scope.names.lookup y = some .local := by first | exact .inl rfl | exact .inr rfl)
    (hg : Gl X "range" := by rfl) (hs : starEach [a] X.env = [(false, eval a X.env)] := by rfl) :
    WS X W R (.For (.Name y np) (.Call (.Name "range" rp) [a] [] pos') body [] pos) ρ k :=
  .of (ps_for hp hc (pi_range1 hg hm (pa_U (W := W)) hs) (pg_name hN hi hx hf) (pss_U (W := W))) fun σ na F0 H0 F H D cu n xo q => ⟨ρ, _, R, na, F0, H0, F, h, cu, n, xo, fun ds vs ρ0 F1 H1 c1 n1 hd hh => by
    obtain ⟨j, Iv, rfl, b1, b2, i0, ih, ie⟩ := hh
    have ev : vs = [.int j] := by
      cases hd with
      | cons h1 h2 => cases h2; rw [is_v h1]
    refine ⟨j, ev, b1, b2, for_range (lo := 0) (n := j.toNat) (fun t σ' H' => ∃ ρ' F', Cur na F0 H0 F' H' ∧ Env1 X.K ρ' σ' na H0 F' H' ∧ Iv t ρ') ⟨ρ0, F1, c1, n1, i0⟩ (fun t σ' H' ht hw => ?_) (fun σ' H' hw => ?_)⟩
    · obtain ⟨ρ', F', c', n', hi'⟩ := hw
      have e0 : (0 : Int) + (t : Int) = (t : Int) := Int.zero_add _
      show tUSs X W body _ (σ'.set i (some (.int ((0 : Int) + (t : Int))))) H'
      rw [e0]
      exact ⟨_, _, R, na, F0, H0, F', ih t ρ' (by omega) hi', c', n'.set .v, xo, ⟨fun ρ3 σ3 F3 H3 c3 n3 h => ⟨ρ3, F3, c3, n3, h⟩, q.rt, fun ρ3 σ3 F3 H3 c3 n3 h => q.nx ρ3 σ3 F3 H3 c3 n3 h, fun ρ3 σ3 F3 H3 c3 n3 h => ⟨ρ3, F3, c3, n3, h⟩, q.ro⟩⟩
    · obtain ⟨ρ', F', c', n', hi'⟩ := hw
      exact q.nx ρ' σ' F' H' c' n' (ie ρ' hi')⟩
/-- a loop over a list that stands still; tg: how the target takes an item -/
structure TgD (X : Cx) (tg : Expr) (g : TG) (d : Dat) (ρ : List Sl) (Q : List Sl → Prop) : Prop where
  run : ∀ (σ : L2.St) (na : Option Addr) (F0 H0 F H : Hp) (v : V) (D : L2.St → Hp → Prop), Cur na F0 H0 F H → Env1 X.K ρ σ na H0 F H → Is X.K d v F → (∀ ρ' σ' , Env1 X.K ρ' σ' na H0 F H → Q ρ' → D σ' H) → g v σ H D
theorem tg_name (i : Nat) {tg : Expr} {d : Dat} {Q : List Sl → Prop} (h : Q (ρ.set i (.pu d))) : TgD X tg (gName i) d ρ Q := ⟨fun σ na F0 H0 F H v D c n hd q => q _ _ (n.set hd) h⟩
theorem ws_forG {tg : Expr} {g : TG} {it : Expr} (hp : PassesOwn (model X.prog X.w) X.A X.env X.xe) (hc : X.calm = true) (hg : PG X tg g)
    (h : WE X W R it ρ fun d ρ0 => ∃ (ds : List Dat) (Iv : Nat → List Sl → Prop), d = .lst ds ∧ Iv 0 ρ0 ∧
      (∀ (j : Nat) d' ρ', ds[j]? = some d' → Iv j ρ' → TgD X tg g d' ρ' fun ρ2 => WSs X W R body ρ2 { k with nx := Iv (j + 1), ct := Iv (j + 1), bk := k.nx }) ∧ ∀ ρ', Iv ds.length ρ' → k.nx ρ')
    (hl : ∀ {tl : TE}, PE X it tl → PI X tg it (iList X.K tl)) (hst : ∀ x, foldedSetIterable it X.env x = pure x := by intro _; rfl) :
    WS X W R (.For tg it body [] pos) ρ k :=
  .of (ps_for hp hc (hl (pe_U (W := W))) hg (pss_U (W := W)) hst) fun σ na F0 H0 F H D cu n xo q => ⟨ρ, _, R, na, F0, H0, F, h, cu, n, xo, fun d v ρ0 F1 H1 c1 n1 hd hh => by
    obtain ⟨ds, Iv, rfl, i0, ih, ie⟩ := hh
    cases hd with
    | lst ha hs0 =>
    rename_i a0 vs0
    refine ⟨a0, rfl, ⟨vs0, c1.fh.sql ha⟩, for_list (xs := vs0) (fun t σ' H' => ∃ ρ' F', Cur na F1 H0 F' H' ∧ Env1 X.K ρ' σ' na H0 F' H' ∧ Iv t ρ') ⟨ρ0, F1, c1.re, n1, i0⟩ (fun t σ' H' _ hw => ?_) (fun t y σ' H' hy hw => ?_) (fun σ' H' hw => ?_)⟩
    · obtain ⟨ρ', F', c', n', hi'⟩ := hw
      exact c'.fh.sql (c'.ff.sql ha)
    · obtain ⟨ρ', F', c', n', hi'⟩ := hw
      obtain ⟨d', h1, h2⟩ := hs0.get' hy
      refine (ih t d' ρ' h1 hi').run σ' na F1 H0 F' H' y _ c' n' (h2.mono c'.ff) fun ρ2 σ2 n2 hw2 => ?_
      exact ⟨ρ2, _, R, na, F1, H0, F', hw2, c', n2, xo.re c1, ⟨fun ρ3 σ3 F3 H3 c3 n3 h => ⟨ρ3, F3, c3, n3, h⟩, fun d v ρ3 σ3 F3 H3 c3 n3 hd h => q.rt d v ρ3 σ3 F3 H3 (c1.back c3) n3 hd h, fun ρ3 σ3 F3 H3 c3 n3 h => q.nx ρ3 σ3 F3 H3 (c1.back c3) n3 h, fun ρ3 σ3 F3 H3 c3 n3 h => ⟨ρ3, F3, c3, n3, h⟩, fun ds a vs ρ3 σ3 F3 H3 c3 => q.ro ds a vs ρ3 σ3 F3 H3 (c1.back c3)⟩⟩
    · obtain ⟨ρ', F', c', n', hi'⟩ := hw
      rw [← hs0.length] at hi'
      exact q.nx ρ' σ' F' H' (c1.back c') n' (ie ρ' hi')⟩
/-- a, b, c in the head of a loop: a tuple of as many items -/
inductive TgNs : List Nat → List Dat → List Sl → (List Sl → Prop) → Prop where
  | nil {ρ : List Sl} {Q : List Sl → Prop} (h : Q ρ) : TgNs [] [] ρ Q
  | cons {i : Nat} {is : List Nat} {d : Dat} {ds : List Dat} {ρ : List Sl} {Q : List Sl → Prop} (h : TgNs is ds (ρ.set i (.pu d)) Q) : TgNs (i :: is) (d :: ds) ρ Q
def gNs : List Nat → TGs
  | [] => gNil
  | i :: is => gCons (gName i) (gNs is)
theorem gns_run {is : List Nat} {ds : List Dat} {ρ : List Sl} {Q : List Sl → Prop} (h : TgNs is ds ρ Q) : ∀ {K : PySem.W.Frag} {vs : List V} {σ : L2.St} {na : Option Addr} {F0 H0 F H : Hp} {D : L2.St → Hp → Prop}, Cur na F0 H0 F H → Env1 K ρ σ na H0 F H → Isl K ds vs F → (∀ ρ' σ', Env1 K ρ' σ' na H0 F H → Q ρ' → D σ' H) → gNs is vs σ H D := by
  induction h with
  | nil h =>
    intro K vs σ na F0 H0 F H D c n hd q
    cases hd
    exact ⟨rfl, q _ _ n h⟩
  | cons h ih =>
    intro K vs σ na F0 H0 F H D c n hd q
    cases hd with
    | cons h1 h2 => exact ⟨_, _, rfl, ih c (n.set h1) h2 q⟩
theorem tg_tup {tg : Expr} {is : List Nat} {ds : List Dat} {Q : List Sl → Prop} {N : Nat} (hl : ds.length = N) (h : TgNs is ds ρ Q) : TgD X tg (gTup X.K N (gNs is)) (.tup ds) ρ Q :=
  ⟨fun σ na F0 H0 F H v D c n hd q => by
    cases hd with
    | tup ha hs => exact ⟨_, _, rfl, c.fh.sqt ha, by rw [← hs.length, hl], gns_run h c n hs q⟩⟩

/-! ### lists that are the def's own -/
theorem Env1.setN {K : PySem.W.Frag} {σ : L2.St} {na : Option Addr} {H0 F H : Hp} {i : Nat} {p : Addr} {ds : List Dat} {vs : List V} (e : Env1 K ρ σ na H0 F H) (ex : Ex F H) (hh : ∀ a o, na ≠ some a → H0 a = some o → H a = some o) (hna : ∀ a, na = some a → H a ≠ none) (hp : H p = none) (hd : Isl K ds vs F) : Env1 K (ρ.set i (.ow false ds)) (σ.set i (some (.ref p))) na H0 F (upd H p (.lst vs)) := by
  have other : ∀ {j : Nat} {t : Sl}, (ρ.set i (.ow false ds))[j]? = some t → (i = j ∧ i < ρ.length ∧ t = .ow false ds) ∨ (i ≠ j ∧ ρ[j]? = some t) := fun {j t} h1 => by
    by_cases q : i = j
    · subst q
      by_cases hl : i < ρ.length
      · rw [List.getElem?_set_self hl] at h1
        exact .inl ⟨rfl, hl, (Option.some.inj h1).symm⟩
      · have : (ρ.set i (.ow false ds)).length ≤ i := by rw [List.length_set]; omega
        rw [List.getElem?_eq_none this] at h1
        cases h1
    · rw [List.getElem?_set_ne q] at h1
      exact .inr ⟨q, h1⟩
  have h0 : H0 p = none := by
    cases q : H0 p with
    | none => rfl
    | some u =>
      by_cases z : na = some p
      · exact absurd hp (hna p z)
      · rw [hh p u z q] at hp; cases hp
  refine ⟨fun j d' h1 => ?_, fun j l' ds' h1 => ?_, fun j C' ks' ds' h1 => ?_, fun j j' l1 l2 ds1 es1 b0 h1 h2 h3 h4 => ?_, fun j j' C1 D1 ks1 ls1 ds1 es1 h1 h2 => ?_, by rw [List.length_set, List.length_set]; exact e.ln⟩
  · rcases other h1 with ⟨_, _, z⟩ | ⟨q, z⟩
    · cases z
    · rw [List.getElem?_set_ne q]; exact e.pu j d' z
  · rcases other h1 with ⟨rfl, hl, z⟩ | ⟨q, z⟩
    · cases z
      exact ⟨p, vs, List.getElem?_set_self (by rw [← e.ln]; exact hl), fnone ex hp, upd_same, hd, fun z => (nomatch z), fun _ => h0⟩
    · obtain ⟨b, ws, y1, y2, y3, y4, y5⟩ := e.ow j l' ds' z
      rw [List.getElem?_set_ne q]
      exact ⟨b, ws, y1, y2, by rw [upd_ne (ne_of_none y3 hp)]; exact y3, y4, y5⟩
  · rcases other h1 with ⟨_, _, z⟩ | ⟨q, z⟩
    · cases z
    · obtain ⟨b, dx, ws, y1, y2, y3, y4, y5⟩ := e.ob j C' ks' ds' z
      rw [List.getElem?_set_ne q]
      exact ⟨b, dx, ws, y1, y2, y3, by rw [upd_ne (ne_of_none y4 hp)]; exact y4, y5⟩
  · have no : ∀ {j l1 ds1 b0}, i ≠ j → ρ[j]? = some (Sl.ow l1 ds1) → σ[j]? = some (some (V.ref b0)) → b0 ≠ p := fun {j l1 ds1 b0} _ z y z' => by
      obtain ⟨b, ws, y1, y2, y3, y4, y5⟩ := e.ow j l1 ds1 z
      rw [y] at y1; cases y1
      rw [z', hp] at y3; cases y3
    rcases other h1 with ⟨rfl, hl, z1⟩ | ⟨q1, z1⟩
    · rw [List.getElem?_set_self (by rw [← e.ln]; exact hl)] at h3
      cases h3
      rcases other h2 with ⟨rfl, _, z2⟩ | ⟨q2, z2⟩
      · rfl
      · rw [List.getElem?_set_ne q2] at h4
        exact absurd rfl (no q2 z2 h4)
    · rw [List.getElem?_set_ne q1] at h3
      rcases other h2 with ⟨rfl, hl, z2⟩ | ⟨q2, z2⟩
      · rw [List.getElem?_set_self (by rw [← e.ln]; exact hl)] at h4
        cases h4
        exact absurd rfl (no q1 z1 h3)
      · rw [List.getElem?_set_ne q2] at h4
        exact e.ap j j' l1 l2 ds1 es1 b0 z1 z2 h3 h4
  · rcases other h1 with ⟨_, _, z⟩ | ⟨q1, z1⟩
    · cases z
    · rcases other h2 with ⟨_, _, z⟩ | ⟨q2, z2⟩
      · cases z
      · exact e.ao j j' C1 D1 ks1 ls1 ds1 es1 z1 z2
/-- a list that is there already, and nobody else's -/
theorem Env1.setO {K : PySem.W.Frag} {σ : L2.St} {na : Option Addr} {H0 F H : Hp} {i : Nat} {p : Addr} {ds : List Dat} {vs : List V} (e : Env1 K ρ σ na H0 F H) (hf : F p = none) (hp : H p = some (.lst vs)) (hd : Isl K ds vs F) (h0 : H0 p = none)
    (hno : ∀ (j : Nat) l' ds' b, ρ[j]? = some (Sl.ow l' ds') → σ[j]? = some (some (V.ref b)) → b ≠ p) : Env1 K (ρ.set i (.ow false ds)) (σ.set i (some (.ref p))) na H0 F H := by
  have other : ∀ {j : Nat} {t : Sl}, (ρ.set i (.ow false ds))[j]? = some t → (i = j ∧ i < ρ.length ∧ t = .ow false ds) ∨ (i ≠ j ∧ ρ[j]? = some t) := fun {j t} h1 => by
    by_cases q : i = j
    · subst q
      by_cases hl : i < ρ.length
      · rw [List.getElem?_set_self hl] at h1
        exact .inl ⟨rfl, hl, (Option.some.inj h1).symm⟩
      · have : (ρ.set i (.ow false ds)).length ≤ i := by rw [List.length_set]; omega
        rw [List.getElem?_eq_none this] at h1
        cases h1
    · rw [List.getElem?_set_ne q] at h1
      exact .inr ⟨q, h1⟩
  refine ⟨fun j d' h1 => ?_, fun j l' ds' h1 => ?_, fun j C' ks' ds' h1 => ?_, fun j j' l1 l2 ds1 es1 b0 h1 h2 h3 h4 => ?_, fun j j' C1 D1 ks1 ls1 ds1 es1 h1 h2 => ?_, by rw [List.length_set, List.length_set]; exact e.ln⟩
  · rcases other h1 with ⟨_, _, z⟩ | ⟨q, z⟩
    · cases z
    · rw [List.getElem?_set_ne q]; exact e.pu j d' z
  · rcases other h1 with ⟨rfl, hl, z⟩ | ⟨q, z⟩
    · cases z
      exact ⟨p, vs, List.getElem?_set_self (by rw [← e.ln]; exact hl), hf, hp, hd, fun z => (nomatch z), fun _ => h0⟩
    · rw [List.getElem?_set_ne q]
      exact e.ow j l' ds' z
  · rcases other h1 with ⟨_, _, z⟩ | ⟨q, z⟩
    · cases z
    · rw [List.getElem?_set_ne q]
      exact e.ob j C' ks' ds' z
  · rcases other h1 with ⟨rfl, hl, z1⟩ | ⟨q1, z1⟩
    · rw [List.getElem?_set_self (by rw [← e.ln]; exact hl)] at h3
      cases h3
      rcases other h2 with ⟨rfl, _, z2⟩ | ⟨q2, z2⟩
      · rfl
      · rw [List.getElem?_set_ne q2] at h4
        exact absurd rfl (hno _ _ _ _ z2 h4)
    · rw [List.getElem?_set_ne q1] at h3
      rcases other h2 with ⟨rfl, hl, z2⟩ | ⟨q2, z2⟩
      · rw [List.getElem?_set_self (by rw [← e.ln]; exact hl)] at h4
        cases h4
        exact absurd rfl (hno _ _ _ _ z1 h3)
      · rw [List.getElem?_set_ne q2] at h4
        exact e.ap j j' l1 l2 ds1 es1 b0 z1 z2 h3 h4
  · rcases other h1 with ⟨_, _, z⟩ | ⟨q1, z1⟩
    · cases z
    · rcases other h2 with ⟨_, _, z⟩ | ⟨q2, z2⟩
      · cases z
      · exact e.ao j j' C1 D1 ks1 ls1 ds1 es1 z1 z2
/-- x = [a, b, ..]: a list of the def's own -/
theorem ws_setL (i : Nat) {y : Str} {lp : Pos} (hN : X.N.Nodup) (h : WA X W R es ρ fun ds ρ' => ds.length ≤ 100000 ∧ k.nx (ρ'.set i (.ow false ds))) (hi : X.N[i]? = some y := by rfl) (hx : Loc X.env.scope y := by first | exact Or.inl rfl | exact Or.inr rfl)
    (hs : swapsWith (.List es lp) (some (.Name y pos')) pos.line X.env = pure false := by rfl) (hf : X.fn y = true ∨ X.env.scope.names.lookup y = some .local := by first | exact .inl rfl | exact .inr rfl | assumption) : WS X W R (.Assign [.Name y pos'] (.List es lp) pos) ρ k :=
  .of (ps_set hN hi hx (pe_lst (pa_U (W := W))) hs hf) fun σ na F0 H0 F H D c n xo q => ⟨ρ, _, R, na, F0, H0, F, h, c, n, xo, fun ds vs ρ' F' H' c' n' hd ⟨hl, p⟩ =>
    ⟨by rw [← hd.length]; exact Nat.le_trans hl (by decide), fun a ha => by
      refine q.nx _ _ F' _ ⟨c'.ff, fun b u nb hb => ?_, fun b u hb => ?_, c'.pr, fun b hb => ?_, c'.nz⟩ (n'.setN c'.fh c'.hh (fun b hb => by obtain ⟨⟨u, hu⟩, _⟩ := c'.lv b hb; rw [hu]; exact fun z => nomatch z) ha hd) p
      · rw [upd_ne (ne_of_none (c'.hh b u nb hb) ha)]; exact c'.hh b u nb hb
      · rw [upd_ne (ne_of_none (c'.fh b u hb) ha)]; exact c'.fh b u hb
      · obtain ⟨⟨u, hu⟩, hf'⟩ := c'.lv b hb
        exact ⟨⟨u, by rw [upd_ne (ne_of_none hu ha)]; exact hu⟩, hf'⟩⟩⟩
/-- the list of slot i is changed -/
theorem Env1.upL {K : PySem.W.Frag} {σ : L2.St} {na : Option Addr} {H0 F H : Hp} {i : Nat} {lb : Bool} {ds es : List Dat} {a0 : Addr} {us vs : List V} (e : Env1 K ρ σ na H0 F H) (hi : ρ[i]? = some (.ow lb ds)) (hs : σ[i]? = some (some (.ref a0))) (hf : F a0 = none) (hH : H a0 = some (.lst us)) (g5 : lb = true → na = some a0) (g6 : lb = false → H0 a0 = none) (hd : Isl K es vs F) :
    Env1 K (ρ.set i (.ow lb es)) σ na H0 F (upd H a0 (.lst vs)) := by
  have hlen : i < ρ.length := (List.getElem?_eq_some_iff.mp hi).1
  have other : ∀ {j : Nat} {t : Sl}, (ρ.set i (.ow lb es))[j]? = some t → (i = j ∧ t = .ow lb es) ∨ (i ≠ j ∧ ρ[j]? = some t) := fun {j t} ht => by
    by_cases q0 : i = j
    · subst q0
      rw [List.getElem?_set_self hlen] at ht
      exact .inl ⟨rfl, (Option.some.inj ht).symm⟩
    · rw [List.getElem?_set_ne q0] at ht
      exact .inr ⟨q0, ht⟩
  refine ⟨fun j d' h1 => ?_, fun j l' ds' h1 => ?_, fun j C ks ds' h1 => ?_, fun j j' l1 l2 ds1 es1 b h1 h2 h3 h4 => ?_, fun j j' C D ks ls ds1 es1 h1 h2 => ?_, by rw [List.length_set]; exact e.ln⟩
  · rcases other h1 with ⟨_, z⟩ | ⟨_, z⟩
    · cases z
    · exact e.pu j d' z
  · rcases other h1 with ⟨e1, z⟩ | ⟨q0, z⟩
    · subst e1
      cases z
      exact ⟨a0, vs, hs, hf, upd_same, hd, g5, g6⟩
    · obtain ⟨b, ws', y1, y2, y3, y4, y5⟩ := e.ow j l' ds' z
      have nb : b ≠ a0 := fun z' => by
        subst z'
        exact q0 (e.ap i j lb l' ds ds' b hi z hs y1)
      exact ⟨b, ws', y1, y2, by rw [upd_ne nb]; exact y3, y4, y5⟩
  · rcases other h1 with ⟨_, z⟩ | ⟨q0, z⟩
    · cases z
    · obtain ⟨b, dx, ws', y1, y2, y3, y4, y5, y6⟩ := e.ob j C ks ds' z
      have nb : b ≠ a0 := fun z' => by subst z'; rw [hH] at y4; cases y4
      exact ⟨b, dx, ws', y1, y2, y3, by rw [upd_ne nb]; exact y4, y5, y6⟩
  · rcases other h1 with ⟨e1, z1⟩ | ⟨q1, z1⟩
    · rcases other h2 with ⟨e2, z2⟩ | ⟨q2, z2⟩
      · exact e1.symm.trans e2
      · subst e1
        rw [hs] at h3
        cases h3
        exact e.ap i j' lb l2 ds es1 a0 hi z2 hs h4
    · rcases other h2 with ⟨e2, z2⟩ | ⟨q2, z2⟩
      · subst e2
        rw [hs] at h4
        cases h4
        exact e.ap j i l1 lb ds1 ds a0 z1 hi h3 hs
      · exact e.ap j j' l1 l2 ds1 es1 b z1 z2 h3 h4
  · rcases other h1 with ⟨_, z1⟩ | ⟨_, z1⟩
    · cases z1
    · rcases other h2 with ⟨_, z2⟩ | ⟨_, z2⟩
      · cases z2
      · exact e.ao j j' C D ks ls ds1 es1 z1 z2
theorem Cur.upL {na : Option Addr} {F0 H0 F H : Hp} {a0 : Addr} {lb : Bool} {u : HO} (c : Cur na F0 H0 F H) (hf : F a0 = none) (g5 : lb = true → na = some a0) (g6 : lb = false → H0 a0 = none) : Cur na F0 H0 F (upd H a0 u) := by
  refine ⟨c.ff, fun b o nb hb => ?_, fun b o hb => ?_, c.pr, fun b hb => ?_, c.nz⟩
  · by_cases q : b = a0
    · subst q
      cases lb with
      | true => exact absurd (g5 rfl) nb
      | false => rw [g6 rfl] at hb; cases hb
    · rw [upd_ne q]; exact c.hh b o nb hb
  · rw [upd_ne (ne_of_none hb hf)]; exact c.fh b o hb
  · obtain ⟨⟨o, ho⟩, hfb⟩ := c.lv b hb
    refine ⟨?_, hfb⟩
    by_cases q : b = a0
    · subst q; exact ⟨_, upd_same⟩
    · exact ⟨o, by rw [upd_ne q]; exact ho⟩
end
end Sf
namespace Sf
open PySem L2

section
variable {X : Cx} {W : WX} {R : RX} {e a b c o : Expr} {es : List Expr} {st : Stmt} {sts rest body : List Stmt} {ρ : List Sl} {P : PD} {k : Kn} {pos pos' p apos : Pos} {x m : Str} {l : Nat} {dd : List V} {s : DSp}

/-! ### isinstance -/
structure ClsI (K : PySem.W.Frag) (C : Addr) : Prop where
  cl : Cls K C
  ha : PySem.W.findIn K (.ref C) "__class__" = some (some (.builtin "object.__class__"))
  hn : PySem.W.specialIn K (.builtin "object.__class__") "__get__" = some (some (.builtin "getset_descriptor.__get__"))
  htk : PySem.W.takesIn K (.builtin "object.__class__") = some true
  hm : PySem.W.mroIn K C (.type "object") = some true
theorem TyD.tyx {K : PySem.W.Frag} {F H : Hp} {d : Dat} {t : Value} {x : V} (ty : TyD K d t) (hI : ∀ C ks ds, d = .ins C ks ds → ClsI K C) (e : Ex F H) (h : Is K d x F) : TyX K H x t := by
  cases ty with
  | non => cases is_v h; exact .base .non
  | bl b => cases is_v h; exact .base (.bl b)
  | int i => cases is_v h; exact .base (.int i)
  | str i => cases is_v h; exact .base (.str i)
  | lst ds =>
    cases h with
    | lst ha hs =>
      rcases e.sql ha with (h | ⟨o, h⟩) | ⟨o, its, n, h1, h2, _⟩
      · exact .base (.lst h)
      · exact .base (.frz h)
      · exact .kList h1 h2
  | tup ds =>
    cases h with
    | tup ha hs =>
      rcases e.sqt ha with (h | ⟨o, h⟩) | ⟨o, its, n, h1, h2, _⟩
      · exact .base (.tup h)
      · exact .fTuple h
      · exact .kTuple h1 h2
  | ins C ks ds =>
    cases h with
    | ins ha hz hs =>
      have T := hI C ks ds rfl
      exact .base (.ins (e _ _ ha) T.cl T.ha T.hn T.htk T.hm)
theorem we_isi {q : Pos} (hm : X.mg "isinstance" = none) (h : WA X W R (e :: es) ρ fun ds ρ' => ∃ d c t u bb, ds = [d, .v c] ∧ TyD X.K d t ∧ (∀ C ks fs, d = .ins C ks fs → ClsI X.K C) ∧ ClsV c u ∧ PySem.W.kitOne X.K t u = some bb ∧ P (dB bb) ρ') (hg : Gl X "isinstance" := by rfl)
    (he : starEach (e :: es) X.env = (false, eval e X.env) :: starEach es X.env := by rfl) (hpl : (backTo pos (starEach es X.env)).any (·.1) = false := by rfl) : WE X W R (.Call (.Name "isinstance" q) (e :: es) [] pos) ρ P := by
  refine we_cb call_isi hm (by decide +kernel) ⟨fun pos pins s σ na F0 H0 F H Q I c n x q => h.run pos pins s σ na F0 H0 F H Q I c n x fun ds vs ρ' F' H' c' n' hd p => q ds vs ρ' F' H' c' n' hd ?_⟩ hg (by decide) (by decide) he hpl
  obtain ⟨d, cv, t, u, bb, rfl, ty, hI, hc, hk, hp⟩ := p
  intro vs2 F2 H2 Q2 ex hi hq
  cases hi with
  | cons h1 h2 =>
    cases h2 with
    | cons h3 h4 =>
      cases h4
      cases is_v h3
      exact ⟨_, _, t, u, bb, rfl, hc, ty.tyx hI ex h1, hk, hq _ _ F2 H2 (.refl ex) .v hp⟩

/-! ### is, is not of bools -/
theorem od_isB {t u : Bool} (p : P (dB (decide (t = u))) ρ) : OpD X W R (compareOp .Is) (dB t) (dB u) ρ P := .of op_isBl fun x y F H Q e h1 h2 q => ⟨t, u, is_v h1, is_v h2, q _ _ F H (.refl e) .v p⟩
theorem od_notB {t u : Bool} (p : P (dB (!decide (t = u))) ρ) : OpD X W R (compareOp .IsNot) (dB t) (dB u) ρ P := .of op_notBl fun x y F H Q e h1 h2 q => ⟨t, u, is_v h1, is_v h2, q _ _ F H (.refl e) .v p⟩
/-- texts joined -/
theorem od_cat {x y : Str} (hl : x.length + y.length ≤ 100000) (p : P (dS (x ++ y)) ρ) : OpD X W R (binaryOp .Add) (dS x) (dS y) ρ P :=
  .of op_add_str fun u v F H Q e h1 h2 q => ⟨x, y, is_v h1, is_v h2, Nat.le_trans hl (by decide), q _ _ F H (.refl e) .v p⟩

/-! ### built-in functions of ints and texts -/
theorem we_abs {q : Pos} (hm : X.mg "abs" = none) (h : WA X W R [a] ρ fun ds ρ' => ∃ i, ds = [dI i] ∧ P (dI (if i < 0 then -i else i)) ρ') (hg : Gl X "abs" := by rfl)
    (he : starEach [a] X.env = (false, eval a X.env) :: starEach [] X.env := by rfl) (hpl : (backTo pos (starEach [] X.env)).any (·.1) = false := by rfl) : WE X W R (.Call (.Name "abs" q) [a] [] pos) ρ P := by
  refine we_cb call_abs hm (by decide +kernel) ⟨fun pos pins s σ na F0 H0 F H Q I c n x q => h.run pos pins s σ na F0 H0 F H Q I c n x fun ds vs ρ' F' H' c' n' hd p => q ds vs ρ' F' H' c' n' hd ?_⟩ hg (by decide) (by decide) he hpl
  obtain ⟨i, rfl, hp⟩ := p
  intro vs2 F2 H2 Q2 ex hi hq
  cases hi with
  | cons h1 h2 => cases h2; cases is_v h1; exact ⟨i, rfl, hq _ _ F2 H2 (.refl ex) .v hp⟩
theorem we_min2 {q : Pos} (hc : X.calm = true) (hm : X.mg "min" = none) (h : WA X W R [a, b] ρ fun ds ρ' => ∃ i j, ds = [dI i, dI j] ∧ P (dI (if j < i then j else i)) ρ') (hg : Gl X "min" := by rfl)
    (he : starEach [a, b] X.env = (false, eval a X.env) :: starEach [b] X.env := by rfl) (hpl : (backTo pos (starEach [b] X.env)).any (·.1) = false := by rfl) : WE X W R (.Call (.Name "min" q) [a, b] [] pos) ρ P := by
  refine we_cb (call_min2 hc) hm (by decide +kernel) ⟨fun pos pins s σ na F0 H0 F H Q I c n x q => h.run pos pins s σ na F0 H0 F H Q I c n x fun ds vs ρ' F' H' c' n' hd p => q ds vs ρ' F' H' c' n' hd ?_⟩ hg (by decide) (by decide) he hpl
  obtain ⟨i, j, rfl, hp⟩ := p
  intro vs2 F2 H2 Q2 ex hi hq
  cases hi with
  | cons h1 h2 =>
    cases h2 with
    | cons h3 h4 => cases h4; cases is_v h1; cases is_v h3; exact ⟨i, j, rfl, hq _ _ F2 H2 (.refl ex) .v hp⟩
theorem we_gcd {q : Pos} {g : Str} (hm : X.mg g = some (.builtin "math.gcd")) (h : WA X W R [a, b] ρ fun ds ρ' => ∃ i j : Int, ds = [dI i, dI j] ∧ P (dI ((Nat.gcd i.natAbs j.natAbs : Nat) : Int)) ρ') (hg : Gl X g := by rfl) (hdb : (g == ("__debug__" : Str)) = false := by decide)
    (he : starEach [a, b] X.env = (false, eval a X.env) :: starEach [b] X.env := by rfl) (hpl : (backTo pos (starEach [b] X.env)).any (·.1) = false := by rfl) : WE X W R (.Call (.Name g q) [a, b] [] pos) ρ P := by
  refine we_cbf cr_gcd hm ⟨fun pos pins s σ na F0 H0 F H Q I c n x q => h.run pos pins s σ na F0 H0 F H Q I c n x fun ds vs ρ' F' H' c' n' hd p => q ds vs ρ' F' H' c' n' hd ?_⟩ hg hdb he hpl
  obtain ⟨i, j, rfl, hp⟩ := p
  intro vs2 F2 H2 Q2 ex hi hq
  cases hi with
  | cons h1 h2 =>
    cases h2 with
    | cons h3 h4 => cases h4; cases is_v h1; cases is_v h3; exact ⟨i, j, rfl, hq _ _ F2 H2 (.refl ex) .v hp⟩
theorem we_strI {q : Pos} (hm : X.mg "str" = none) (h : WA X W R [a] ρ fun ds ρ' => ∃ i : Int, ds = [dI i] ∧ i.natAbs.log2 < 1920 ∧ P (dS (toString i)) ρ') (hg : Gl X "str" := by rfl)
    (he : starEach [a] X.env = (false, eval a X.env) :: starEach [] X.env := by rfl) (hpl : (backTo pos (starEach [] X.env)).any (·.1) = false := by rfl) : WE X W R (.Call (.Name "str" q) [a] [] pos) ρ P := by
  refine we_ct call_str_int hm (by decide +kernel) ⟨fun pos pins s σ na F0 H0 F H Q I c n x q => h.run pos pins s σ na F0 H0 F H Q I c n x fun ds vs ρ' F' H' c' n' hd p => q ds vs ρ' F' H' c' n' hd ?_⟩ hg (by decide) (by decide) he hpl
  obtain ⟨i, rfl, hl, hp⟩ := p
  intro vs2 F2 H2 Q2 ex hi hq
  cases hi with
  | cons h1 h2 => cases h2; cases is_v h1; exact ⟨i, rfl, hl, hq _ _ F2 H2 (.refl ex) .v hp⟩
/-- len of a list or tuple that stands still -/
theorem we_len {q : Pos} (hm : X.mg "len" = none) (h : WA X W R [a] ρ fun ds ρ' => ∃ es, (ds = [.lst es] ∨ ds = [.tup es]) ∧ P (dI es.length) ρ') (hg : Gl X "len" := by rfl)
    (he : starEach [a] X.env = (false, eval a X.env) :: starEach [] X.env := by rfl) (hpl : (backTo pos (starEach [] X.env)).any (·.1) = false := by rfl) : WE X W R (.Call (.Name "len" q) [a] [] pos) ρ P := by
  refine we_cb call_len hm (by decide +kernel) ⟨fun pos pins s σ na F0 H0 F H Q I c n x q => h.run pos pins s σ na F0 H0 F H Q I c n x fun ds vs ρ' F' H' c' n' hd p => q ds vs ρ' F' H' c' n' hd ?_⟩ hg (by decide) (by decide) he hpl
  obtain ⟨es, he, hp⟩ := p
  intro vs2 F2 H2 Q2 ex hi hq
  rcases he with rfl | rfl
  · cases hi with
    | cons h1 h2 =>
      cases h2
      cases h1 with
      | lst ha hs => exact ⟨_, es.length, rfl, .inl ⟨_, ex.sql ha, hs.length⟩, hq _ _ F2 H2 (.refl ex) .v hp⟩
  · cases hi with
    | cons h1 h2 =>
      cases h2
      cases h1 with
      | tup ha hs => exact ⟨_, es.length, rfl, .inr ⟨_, ex.sqt ha, hs.length⟩, hq _ _ F2 H2 (.refl ex) .v hp⟩
/-- .. of a list of the def's own -/
theorem we_lenO (i : Nat) {q p1 : Pos} {x1 : Str} {lb : Bool} {ds : List Dat} (hm : X.mg "len" = none) (hi : ρ[i]? = some (.ow lb ds)) (hp : P (dI ds.length) ρ) (hN : X.N[i]? = some x1 := by rfl) (hv : Vis X.env.scope x1 := by first | exact Or.inl rfl | exact Or.inr (Or.inl rfl) | exact Or.inr (Or.inr rfl))
    (hd : (x1 == ("__debug__" : Str)) = false := by decide) (hcd : (x1 == ("__classdict__" : Str)) = false := by decide) (hg : Gl X "len" := by rfl)
    (he : starEach [.Name x1 p1] X.env = (false, eval (.Name x1 p1) X.env) :: starEach [] X.env := by rfl) (hpl : (backTo pos (starEach [] X.env)).any (·.1) = false := by rfl) : WE X W R (.Call (.Name "len" q) [.Name x1 p1] [] pos) ρ P :=
  .of (pe_callB call_len hg hm (by decide +kernel) (pa_cons (pe_var hN hv hd hcd) pa_nil he) (by decide) (by decide) he hpl) fun σ na F0 H0 F H Q c n xo q => by
    obtain ⟨a0, vs, g1, g2, g3, g4, _⟩ := n.ow i lb ds hi
    exact ⟨_, g1, _, ds.length, rfl, .inl ⟨vs, .inl (.inl g3), g4.length⟩, q _ _ ρ F H c n .v hp⟩
/-- xs.pop(0) of an own list -/
theorem we_pop0 (i : Nat) {p1 p2 apos cpos : Pos} {j : Nat} {x1 : Str} {lb : Bool} {d : Dat} {ds : List Dat} (hi : ρ[i]? = some (.ow lb (d :: ds))) (hp : P d (ρ.set i (.ow lb ds))) (hN : X.N[i]? = some x1 := by rfl) (hv : Vis X.env.scope x1 := by first | exact Or.inl rfl | exact Or.inr (Or.inl rfl) | exact Or.inr (Or.inr rfl))
    (hd : (x1 == ("__debug__" : Str)) = false := by decide) (hcd : (x1 == ("__classdict__" : Str)) = false := by decide)
    (hbase : attributeBase (.Name x1 p1) "pop" X.env (eval (.Name x1 p1) X.env) = eval (.Name x1 p1) X.env := by rfl) (hfew : ((backTo cpos (starEach [.Constant (.int 0) j p2] X.env)).all (fun x => !x.1) && (backToKw cpos (keywordEach [] X.env)).all (fun x => x.1.isSome)
      && decide (([.Constant (.int 0) j p2] : List Expr).length + ([] : List Keyword).length + (if ([] : List Keyword).isEmpty then 0 else 1) < 30)) = true := by rfl) (hline : (apos.endLine == cpos.line) = true := by rfl)
    (hs : starEach [.Constant (.int 0) j p2] X.env = (false, eval (.Constant (.int 0) j p2) X.env) :: starEach [] X.env := by rfl) (hpl : (backTo cpos (starEach [] X.env)).any (·.1) = false := by rfl) :
    WE X W R (.Call (.Attribute (.Name x1 p1) "pop" apos) [.Constant (.int 0) j p2] [] cpos) ρ P :=
  .of (pe_bm PySem.F.plainAttrs_list PySem.F.slot_list_pop PySem.F.type_list_pop mt_popAt (pe_var hN hv hd hcd) (pa_cons pe_int pa_nil hs) hbase hfew hline hs hpl) fun σ na F0 H0 F H Q c n xo q => by
    obtain ⟨a0, vs, g1, g2, g3, g4, g5, g6⟩ := n.ow i lb _ hi
    cases g4 with
    | cons h1 h2 =>
      rename_i v vs'
      refine ⟨_, g1, .inl ⟨rfl, _, .inl (.inl g3)⟩, a0, _, 0, 0, v, rfl, rfl, g3, by decide, by decide, ?_, rfl, ?_⟩
      · unfold seqIndex?; simp
      · exact q d v _ F _ (c.upL g2 g5 g6) (n.upL hi g1 g2 g3 g5 g6 h2) h1 hp
/-- xs.append(e) of an own list -/
theorem ws_app (i : Nat) {p1 apos cpos : Pos} {x1 : Str} (h : WE X W R e ρ fun d ρ' => ∃ lb ds, ρ'[i]? = some (.ow lb ds) ∧ ds.length < 100000 ∧ k.nx (ρ'.set i (.ow lb (ds ++ [d])))) (hN : X.N[i]? = some x1 := by rfl)
    (hi : ∃ lb ds, ρ[i]? = some (.ow lb ds)) (hv : Vis X.env.scope x1 := by first | exact Or.inl rfl | exact Or.inr (Or.inl rfl) | exact Or.inr (Or.inr rfl))
    (hd : (x1 == ("__debug__" : Str)) = false := by decide) (hcd : (x1 == ("__classdict__" : Str)) = false := by decide)
    (hbase : attributeBase (.Name x1 p1) "append" X.env (eval (.Name x1 p1) X.env) = eval (.Name x1 p1) X.env := by rfl) (hfew : ((backTo cpos (starEach [e] X.env)).all (fun x => !x.1) && (backToKw cpos (keywordEach [] X.env)).all (fun x => x.1.isSome)
      && decide (([e] : List Expr).length + ([] : List Keyword).length + (if ([] : List Keyword).isEmpty then 0 else 1) < 30)) = true := by rfl) (hline : (apos.endLine == cpos.line) = true := by rfl)
    (hs : starEach [e] X.env = (false, eval e X.env) :: starEach [] X.env := by rfl) (hpl : (backTo cpos (starEach [] X.env)).any (·.1) = false := by rfl)
    (hsw : swapsWith (.Call (.Attribute (.Name x1 p1) "append" apos) [e] [] cpos) none pos.line X.env = pure false := by rfl) :
    WS X W R (.Expr (.Call (.Attribute (.Name x1 p1) "append" apos) [e] [] cpos) pos) ρ k :=
  .of (ps_expr (pe_bm PySem.F.plainAttrs_list PySem.F.slot_list_append PySem.F.type_list_append mt_append (pe_var hN hv hd hcd) (pa_cons (pe_U (W := W)) pa_nil hs) hbase hfew hline hs hpl) hsw) fun σ na F0 H0 F H D c n xo q => by
    obtain ⟨lb0, ds0, hi⟩ := hi
    obtain ⟨a0, vs, g1, g2, g3, g4, g5, g6⟩ := n.ow i lb0 ds0 hi
    refine ⟨_, g1, .inl ⟨rfl, _, .inl (.inl g3)⟩, ρ, _, R, na, F0, H0, F, h, c, n, xo, fun d v ρ' F' H' c' n' hd ⟨lb, ds, hj, hl, p⟩ => ?_⟩
    obtain ⟨a1, ws, k1, k2, k3, k4, k5, k6⟩ := n'.ow i lb ds hj
    rw [g1] at k1
    cases k1
    exact ⟨a0, ws, v, rfl, rfl, k3, by rw [← k4.length]; exact Nat.lt_of_lt_of_le hl (by decide), q.nx _ σ F' _ (c'.upL k2 k5 k6) (n'.upL hj g1 k2 k3 k5 k6 (k4.append (.cons hd .nil))) p⟩
/-- x = f(..), f hands back a new list: it is the def's own -/
theorem ws_setF (i : Nat) {s : LSp} {y : Str} {cp : Pos} (G : FgL X.prog X.w X.K X.mg X.base x l s) (hr : Room l X.A) (tk : Takes X W) (hNd : X.N.Nodup) (h : WA X W R (e :: es) ρ fun ds ρ' => s ds fun us => k.nx (ρ'.set i (.ow false us))) (hi : X.N[i]? = some y := by rfl) (hx : Loc X.env.scope y := by first | exact Or.inl rfl | exact Or.inr rfl)
    (hg : Gl X x := by rfl) (hdb : (x == ("__debug__" : Str)) = false := by decide) (he : starEach (e :: es) X.env = (false, eval e X.env) :: starEach es X.env := by rfl) (hpl : (backTo cp (starEach es X.env)).any (·.1) = false := by rfl)
    (hsw : swapsWith (.Call (.Name x p) (e :: es) [] cp) (some (.Name y pos')) pos.line X.env = pure false := by rfl) (hf : X.fn y = true ∨ X.env.scope.names.lookup y = some .local := by first | exact .inl rfl | exact .inr rfl | assumption) : WS X W R (.Assign [.Name y pos'] (.Call (.Name x p) (e :: es) [] cp) pos) ρ k := by
  obtain ⟨f, fd, ps, F, hm, hk, hb⟩ := G.ex
  refine .of (ps_set hNd hi hx (pe_callSD F hr hg hm hk hb .nil (fun σ => passAt tk σ) (pa_U (W := W)) hdb he hpl) hsw hf) fun σ na F0 H0 F H D c n xo q => ⟨ρ, _, R, na, F0, H0, F, h, c, n, xo, fun ds vs ρ' F' H' c' n' hds hs => ?_⟩
  refine ⟨F', ds, _, c'.fh, by rw [List.append_nil]; exact hds, hs, fun us a ws F2 H2 st h0 h1 h2 h3 p => ?_⟩
  have c2 := c'.stp st
  have n2 := n'.stp st
  have a0 : H0 a = none := by
    cases z : H0 a with
    | none => rfl
    | some u =>
      by_cases y1 : na = some a
      · obtain ⟨⟨u', hu'⟩, _⟩ := c'.lv a y1
        rw [h0] at hu'; cases hu'
      · rw [c'.hh a u y1 z] at h0; cases h0
  exact q.nx _ _ F2 H2 c2 (n2.setO h1 h2 h3 a0 fun j l' ds' b hj hb => by
    obtain ⟨b', ws', y1, y2, y3, _⟩ := n'.ow j l' ds' hj
    rw [hb] at y1
    cases y1
    exact fun z => by rw [z, h0] at y3; cases y3) p
/-- an own list that changes no more -/
theorem Env1.frz {K : PySem.W.Frag} {σ : L2.St} {na : Option Addr} {F0 H0 F H : Hp} {i : Nat} {ds : List Dat} (e : Env1 K ρ σ na H0 F H) (c : Cur na F0 H0 F H) (hi : ρ[i]? = some (.ow false ds)) : ∃ F', Cur na F0 H0 F' H ∧ Env1 K (ρ.set i (.pu (.lst ds))) σ na H0 F' H := by
  obtain ⟨a0, vs, g1, g2, g3, g4, g5, g6⟩ := e.ow i false ds hi
  have ff : Ex F (upd F a0 (.lst vs)) := fun b o hb => by rw [upd_ne (ne_of_none hb g2)]; exact hb
  have hlen : i < ρ.length := (List.getElem?_eq_some_iff.mp hi).1
  have other : ∀ {j : Nat} {t : Sl}, (ρ.set i (.pu (.lst ds)))[j]? = some t → (i = j ∧ t = .pu (.lst ds)) ∨ (i ≠ j ∧ ρ[j]? = some t) := fun {j t} ht => by
    by_cases q0 : i = j
    · subst q0
      rw [List.getElem?_set_self hlen] at ht
      exact .inl ⟨rfl, (Option.some.inj ht).symm⟩
    · rw [List.getElem?_set_ne q0] at ht
      exact .inr ⟨q0, ht⟩
  refine ⟨upd F a0 (.lst vs), ⟨c.ff.trans ff, c.hh, fun b o hb => ?_, fun b o h1 h2 => ?_, fun b hb => ?_, c.nz⟩, ⟨fun j d' h1 => ?_, fun j l' ds' h1 => ?_, fun j C ks ds' h1 => ?_, fun j j' l1 l2 ds1 es1 b h1 h2 h3 h4 => ?_, fun j j' C D ks ls ds1 es1 h1 h2 => ?_, by rw [List.length_set]; exact e.ln⟩⟩
  · by_cases q : b = a0
    · subst q; rw [upd_same] at hb; cases hb; exact g3
    · rw [upd_ne q] at hb; exact c.fh b o hb
  · rw [upd_ne (ne_of_none h1 (g6 rfl))]; exact c.pr b o h1 h2
  · obtain ⟨o, ho⟩ := c.nz b hb
    rw [upd_ne (ne_of_none ho (g6 rfl))]; exact c.lv b hb
  · rcases other h1 with ⟨rfl, z⟩ | ⟨_, z⟩
    · cases z
      exact ⟨.ref a0, g1, .lst (.inl (.inl upd_same)) (g4.mono ff)⟩
    · obtain ⟨v, y1, y2⟩ := e.pu j d' z
      exact ⟨v, y1, y2.mono ff⟩
  · rcases other h1 with ⟨_, z⟩ | ⟨q0, z⟩
    · cases z
    · obtain ⟨b, ws', y1, y2, y3, y4, y5⟩ := e.ow j l' ds' z
      have nb : b ≠ a0 := fun z' => by
        subst z'
        exact q0 (e.ap i j false l' ds ds' b hi z g1 y1)
      exact ⟨b, ws', y1, by rw [upd_ne nb]; exact y2, y3, y4.mono ff, y5⟩
  · rcases other h1 with ⟨_, z⟩ | ⟨q0, z⟩
    · cases z
    · obtain ⟨b, dx, ws', y1, y2, y3, y4, y5, y6⟩ := e.ob j C ks ds' z
      have nb : b ≠ a0 := fun z' => by subst z'; rw [g3] at y4; cases y4
      exact ⟨b, dx, ws', y1, y2, by rw [upd_ne nb]; exact y3, y4, y5, y6.mono ff⟩
  · rcases other h1 with ⟨_, z1⟩ | ⟨_, z1⟩
    · cases z1
    · rcases other h2 with ⟨_, z2⟩ | ⟨_, z2⟩
      · cases z2
      · exact e.ap j j' l1 l2 ds1 es1 b z1 z2 h3 h4
  · rcases other h1 with ⟨_, z1⟩ | ⟨_, z1⟩
    · cases z1
    · rcases other h2 with ⟨_, z2⟩ | ⟨_, z2⟩
      · cases z2
      · exact e.ao j j' C D ks ls ds1 es1 z1 z2
theorem wss_frz (i : Nat) {ds : List Dat} (hi : ρ[i]? = some (.ow false ds)) (h : WSs X W R sts (ρ.set i (.pu (.lst ds))) k) : WSs X W R sts ρ k :=
  ⟨fun pins s σ na F0 H0 F H D I c n x q => by
    obtain ⟨F', c', n'⟩ := n.frz c hi
    exact h.run pins s σ na F0 H0 F' H D I c' n' x q⟩

/-! ### texts with braces -/
theorem we_fmtS (h : WE X W R e ρ fun d ρ' => ∃ y : Str, d = dS y ∧ y.length ≤ 100000 ∧ P (dS y) ρ') : WE X W R (.FormattedValue e (-1) none pos) ρ P :=
  .of (pe_fmt (pe_U (W := W))) fun σ na F0 H0 F H Q c n x q => ⟨ρ, _, R, na, F0, H0, F, h, c, n, x, fun d v ρ' F' H' c' n' hd ⟨y, e, hl, p⟩ => by
    subst e; exact .inl ⟨y, is_v hd, Nat.le_trans hl (by decide), q _ _ ρ' F' H' c' n' .v p⟩⟩
theorem we_fmtI (h : WE X W R e ρ fun d ρ' => ∃ i : Int, d = dI i ∧ i.natAbs.log2 < 1920 ∧ P (dS (toString i)) ρ') : WE X W R (.FormattedValue e (-1) none pos) ρ P :=
  .of (pe_fmt (pe_U (W := W))) fun σ na F0 H0 F H Q c n x q => ⟨ρ, _, R, na, F0, H0, F, h, c, n, x, fun d v ρ' F' H' c' n' hd ⟨i, e, hl, p⟩ => by
    subst e; exact .inr ⟨i, is_v hd, hl, q _ _ ρ' F' H' c' n' .v p⟩⟩
theorem we_js1 (h : WE X W R e ρ P) : WE X W R (.JoinedStr [e] pos) ρ P := .of (pe_joined1 (pe_U (W := W))) fun σ na F0 H0 F H Q c n x q => ⟨ρ, _, R, na, F0, H0, F, h, c, n, x, q⟩
theorem we_js2 (h : WE X W R a ρ fun d1 ρ1 => ∃ y1 : Str, d1 = dS y1 ∧ y1.length ≤ 100000 ∧ WE X W R b ρ1 fun d2 ρ2 => ∃ y2 : Str, d2 = dS y2 ∧ y1.length + y2.length ≤ 100000 ∧ P (dS (y1 ++ y2)) ρ2) : WE X W R (.JoinedStr [a, b] pos) ρ P :=
  .of (pe_joined (.cons (pe_U (W := W)) (.cons (pe_U (W := W)) .nil))) fun σ na F0 H0 F H Q c n x q => ⟨ρ, _, R, na, F0, H0, F, h, c, n, x, fun d1 v1 ρ1 F1 H1 c1 n1 hd1 ⟨y1, e1, hl1, h2⟩ => by
    subst e1
    refine ⟨y1, is_v hd1, ?_, ρ1, _, R, na, F0, H0, F1, h2, c1, n1, x, fun d2 v2 ρ2 F2 H2 c2 n2 hd2 ⟨y2, e2, hl, p⟩ => ?_⟩
    · rw [Str.empty_append]; exact Nat.le_trans (by omega) (show 100000 ≤ sizeLine by decide)
    · subst e2
      rw [Str.empty_append]
      exact ⟨y2, is_v hd2, by rw [Str.length_append]; exact Nat.le_trans hl (by decide), q _ _ ρ2 F2 H2 c2 n2 .v p⟩⟩
end
end Sf
namespace Sf
open PySem L2
/-! ### the numbers as data -/
def ratD (K : PySem.W.Frag) (q : Rat) : Dat := .ins (He.ga K "Ratio") ["n", "d"] [dI q.num, dI (q.den : Int)]
def resD (K : PySem.W.Frag) (p n : Int) : Dat := .ins (He.ga K "Residue") ["p", "n"] [dI p, dI n]
/-- a datum that is no instance of the class at C -/
structure NoI (K : PySem.W.Frag) (C : Addr) (d : Dat) : Prop where
  ex : ∃ t, TyD K d t ∧ PySem.W.kitOne K t (.ref C) = some false
  ci : ∀ D ks fs, d = .ins D ks fs → ClsI K D
/-- the size of a fraction: its parts have at most b bits -/
structure Sz (b : Nat) (q : Rat) : Prop where
  n : q.num.natAbs < 2 ^ b
  d : q.den < 2 ^ b

/-! ### what the defs of ratio.py promise -/
def spReqQ (K : PySem.W.Frag) : DSp := fun ds P R => ∃ d, ds = [d] ∧ ((∃ q, d = ratD K q) ∧ P dN ∨ NoI K (He.ga K "Ratio") d ∧ R (He.ga K "Malformed"))
/-- is a datum an integer, for is_integer -/
structure IntB (K : PySem.W.Frag) (d : Dat) (bb : Bool) : Prop where
  ex : ∃ t b1 b2, TyD K d t ∧ PySem.W.kitOne K t (.type "int") = some b1 ∧ (b1 = true → PySem.W.kitOne K t (.type "bool") = some b2) ∧ bb = (b1 && !b2)
  ci : ∀ D ks fs, d = .ins D ks fs → ClsI K D
theorem IntB.int {K : PySem.W.Frag} (i : Int) : IntB K (dI i) true := ⟨⟨_, true, false, .int i, kit_ty (by decide +kernel), fun _ => kit_ty (by decide +kernel), rfl⟩, fun _ _ _ e => nomatch e⟩
theorem IntB.bl {K : PySem.W.Frag} (i : Bool) : IntB K (dB i) false := ⟨⟨_, true, true, .bl i, kit_ty (by decide +kernel), fun _ => kit_ty (by decide +kernel), rfl⟩, fun _ _ _ e => nomatch e⟩
theorem IntB.non {K : PySem.W.Frag} : IntB K dN false := ⟨⟨_, false, true, .non, kit_ty (by decide +kernel), (fun z => nomatch z), rfl⟩, fun _ _ _ e => nomatch e⟩
theorem IntB.str {K : PySem.W.Frag} (x : Str) : IntB K (dS x) false := ⟨⟨_, false, true, .str x, kit_ty (by decide +kernel), (fun z => nomatch z), rfl⟩, fun _ _ _ e => nomatch e⟩
theorem IntB.lst {K : PySem.W.Frag} (xs : List Dat) : IntB K (.lst xs) false := ⟨⟨_, false, true, .lst xs, kit_ty (by decide +kernel), (fun z => nomatch z), rfl⟩, fun _ _ _ e => nomatch e⟩
theorem IntB.tup {K : PySem.W.Frag} (xs : List Dat) : IntB K (.tup xs) false := ⟨⟨_, false, true, .tup xs, kit_ty (by decide +kernel), (fun z => nomatch z), rfl⟩, fun _ _ _ e => nomatch e⟩
theorem IntB.ins {K : PySem.W.Frag} {C : Addr} {ks : List Str} {fs : List Dat} (h : PySem.W.kitOne K (.ref C) (.type "int") = some false) (ci : ClsI K C) : IntB K (.ins C ks fs) false :=
  ⟨⟨_, false, true, .ins _ _ _, h, (fun z => nomatch z), rfl⟩, fun _ _ _ e => by cases e; exact ci⟩
theorem NoI.int {K : PySem.W.Frag} {C : Addr} (i : Int) (h : PySem.W.kitOne K (.type "int") (.ref C) = some false) : NoI K C (dI i) := ⟨⟨_, .int i, h⟩, fun _ _ _ e => nomatch e⟩
theorem NoI.bl {K : PySem.W.Frag} {C : Addr} (i : Bool) (h : PySem.W.kitOne K (.type "bool") (.ref C) = some false) : NoI K C (dB i) := ⟨⟨_, .bl i, h⟩, fun _ _ _ e => nomatch e⟩
theorem NoI.non {K : PySem.W.Frag} {C : Addr} (h : PySem.W.kitOne K (.type "NoneType") (.ref C) = some false) : NoI K C dN := ⟨⟨_, .non, h⟩, fun _ _ _ e => nomatch e⟩
theorem NoI.str {K : PySem.W.Frag} {C : Addr} (x : Str) (h : PySem.W.kitOne K (.type "str") (.ref C) = some false) : NoI K C (dS x) := ⟨⟨_, .str x, h⟩, fun _ _ _ e => nomatch e⟩
theorem NoI.lst {K : PySem.W.Frag} {C : Addr} (x : List Dat) (h : PySem.W.kitOne K (.type "list") (.ref C) = some false) : NoI K C (.lst x) := ⟨⟨_, .lst x, h⟩, fun _ _ _ e => nomatch e⟩
theorem NoI.tup {K : PySem.W.Frag} {C : Addr} (x : List Dat) (h : PySem.W.kitOne K (.type "tuple") (.ref C) = some false) : NoI K C (.tup x) := ⟨⟨_, .tup x, h⟩, fun _ _ _ e => nomatch e⟩
theorem NoI.ins {K : PySem.W.Frag} {C D : Addr} {ks : List Str} {fs : List Dat} (h : PySem.W.kitOne K (.ref D) (.ref C) = some false) (ci : ClsI K D) : NoI K C (.ins D ks fs) := ⟨⟨_, .ins _ _ _, h⟩, fun _ _ _ e => by cases e; exact ci⟩
def spIsInt (K : PySem.W.Frag) : DSp := fun ds P _ => ∃ d bb, ds = [d] ∧ IntB K d bb ∧ P (dB bb)
def spMkQ (K : PySem.W.Frag) : DSp := fun ds P R => ∃ n d : Int, ds = [dI n, dI d] ∧ (d = 0 → R (He.ga K "ZeroDivisor")) ∧ (d ≠ 0 → n.natAbs < 2 ^ 8900 ∧ d.natAbs < 2 ^ 8900 ∧ (d < 0 → Nat.gcd n.natAbs d.natAbs < 1073741824) ∧ P (ratD K (Rat.divInt n d)))
def spOpQ (K : PySem.W.Frag) (f : Rat → Rat → Rat) : DSp := fun ds P R => ∃ x d, ds = [ratD K x, d] ∧ ((∃ y, d = ratD K y ∧ Sz 4000 x ∧ Sz 4000 y ∧ P (ratD K (f x y))) ∨ NoI K (He.ga K "Ratio") d ∧ R (He.ga K "Malformed"))
def spNegQ (K : PySem.W.Frag) : DSp := fun ds P _ => ∃ x, ds = [ratD K x] ∧ Sz 4000 x ∧ P (ratD K (-x))
def spEqQ (K : PySem.W.Frag) : DSp := fun ds P _ => ∃ x d, ds = [ratD K x, d] ∧ ((∃ y, d = ratD K y ∧ P (dB (decide (x = y)))) ∨ NoI K (He.ga K "Ratio") d ∧ P (dB false))
def spZeroQ (K : PySem.W.Frag) : DSp := fun ds P _ => ∃ x, ds = [ratD K x] ∧ P (dB (decide (x = 0)))
def spInvQ (K : PySem.W.Frag) : DSp := fun ds P R => ∃ x, ds = [ratD K x] ∧ (x = 0 → R (He.ga K "ZeroDivisor")) ∧ (x ≠ 0 → Sz 4000 x ∧ P (ratD K x⁻¹))
def spOverQ (K : PySem.W.Frag) : DSp := fun ds P R => ∃ x y, ds = [ratD K x, ratD K y] ∧ (y = 0 → R (He.ga K "ZeroDivisor")) ∧ (y ≠ 0 → Sz 4000 x ∧ Sz 4000 y ∧ P (ratD K (x / y)))
/-! ### the mathematics -/
theorem divInt_parts {n d : Int} (hd : 0 < d) : (Rat.divInt n d).num = n / ((Nat.gcd n.natAbs d.natAbs : Nat) : Int) ∧ ((Rat.divInt n d).den : Int) = d / ((Nat.gcd n.natAbs d.natAbs : Nat) : Int) := by
  rw [Rat.num_divInt, Rat.den_divInt]
  have e : d.gcd n = Nat.gcd n.natAbs d.natAbs := by rw [Int.gcd_comm]; rfl
  rw [e]
  refine ⟨?_, ?_⟩
  · rw [Int.sign_eq_one_of_pos hd, Int.one_mul]
  · rw [if_neg (by omega)]
    rw [Int.natCast_ediv]
    congr 1
    omega
theorem divInt_partsN {n d : Int} (hd : d < 0) : (Rat.divInt n d).num = Int.fdiv n (-((Nat.gcd n.natAbs d.natAbs : Nat) : Int)) ∧ ((Rat.divInt n d).den : Int) = Int.fdiv d (-((Nat.gcd n.natAbs d.natAbs : Nat) : Int)) := by
  have hg : 0 < Nat.gcd n.natAbs d.natAbs := Nat.gcd_pos_of_pos_right _ (by omega)
  have h := divInt_parts (n := -n) (d := -d) (by omega)
  rw [Rat.neg_divInt_neg] at h
  rw [Int.natAbs_neg, Int.natAbs_neg] at h
  have f1 : ∀ z g : Int, 0 < g → Int.fdiv z (-g) = (-z) / g := fun z g hg => by
    have e : Int.fdiv z (-g) = Int.fdiv (-(-z)) (-g) := by rw [Int.neg_neg]
    rw [e, Int.neg_fdiv_neg, Int.fdiv_eq_ediv_of_nonneg _ (by omega)]
  rw [f1 _ _ (by omega), f1 _ _ (by omega)]
  exact h
end Sf
namespace Sf
open PySem L2
section
variable {X : Cx} {W : WX} {R : RX} {ρ : List Sl} {P : PD} {pos : Pos}
/-- a class, by its name -/
theorem we_ty {x : Str} {T : String} (hm : X.mg x = none) (hv : bootBuiltins x = some (.type T)) (hp : P (.v (.ty T)) ρ) (hg : Gl X x := by rfl) (hn : x ≠ "__name__" := by decide) (hd : (x == ("__debug__" : Str)) = false := by decide) : WE X W R (.Name x pos) ρ P :=
  .of (pe_bltn (v := .ty T) hg hm hv rfl hn hd) fun σ na F0 H0 F H Q c n x q => q _ _ ρ F H c n .v hp
theorem we_cls {x : Str} {C : Addr} (hm : X.mg x = some (.ref C)) (hp : P (.v (.ref C)) ρ) (hg : Gl X x := by rfl) (hd : (x == ("__debug__" : Str)) = false := by decide) : WE X W R (.Name x pos) ρ P := we_glob (v := .ref C) hm rfl hp hg hd
end
end Sf
namespace Sf
open PySem L2
/-! ### reading the parts of numbers -/
structure RatF (K : PySem.W.Frag) : Prop where
  c : Cls K (He.ga K "Ratio")
  n : NoAttr K (He.ga K "Ratio") "n"
  d : NoAttr K (He.ga K "Ratio") "d"
structure ResF (K : PySem.W.Frag) : Prop where
  c : Cls K (He.ga K "Residue")
  p : NoAttr K (He.ga K "Residue") "p"
  n : NoAttr K (He.ga K "Residue") "n"
section
variable {X : Cx} {W : WX} {R : RX} {ρ : List Sl} {P : PD} {pos : Pos} {e : Expr}
theorem we_qn (F : RatF X.K) (h : WE X W R e ρ fun d ρ' => ∃ q, d = ratD X.K q ∧ P (dI q.num) ρ') (hb : attributeBase e "n" X.env (eval e X.env) = eval e X.env := by rfl) : WE X W R (.Attribute e "n" pos) ρ P :=
  we_fld (h.imp fun d ρ' ⟨q, e, p⟩ => ⟨_, _, _, _, e, F.c, F.n, rfl, p⟩) hb
theorem we_qd (F : RatF X.K) (h : WE X W R e ρ fun d ρ' => ∃ q, d = ratD X.K q ∧ P (dI (q.den : Int)) ρ') (hb : attributeBase e "d" X.env (eval e X.env) = eval e X.env := by rfl) : WE X W R (.Attribute e "d" pos) ρ P :=
  we_fld (h.imp fun d ρ' ⟨q, e, p⟩ => ⟨_, _, _, _, e, F.c, F.d, rfl, p⟩) hb
theorem we_rp (F : ResF X.K) (h : WE X W R e ρ fun d ρ' => ∃ p n, d = resD X.K p n ∧ P (dI p) ρ') (hb : attributeBase e "p" X.env (eval e X.env) = eval e X.env := by rfl) : WE X W R (.Attribute e "p" pos) ρ P :=
  we_fld (h.imp fun d ρ' ⟨q, m, e, p⟩ => ⟨_, _, _, _, e, F.c, F.p, rfl, p⟩) hb
theorem we_rn (F : ResF X.K) (h : WE X W R e ρ fun d ρ' => ∃ p n, d = resD X.K p n ∧ P (dI n) ρ') (hb : attributeBase e "n" X.env (eval e X.env) = eval e X.env := by rfl) : WE X W R (.Attribute e "n" pos) ρ P :=
  we_fld (h.imp fun d ρ' ⟨q, m, e, p⟩ => ⟨_, _, _, _, e, F.c, F.n, rfl, p⟩) hb
end
/-! ### fractions -/
theorem q_add (x y : Rat) : Rat.divInt (x.num * (y.den : Int) + y.num * (x.den : Int)) ((x.den : Int) * (y.den : Int)) = x + y := by
  rw [Rat.add_def', ← Int.natCast_mul, Rat.divInt_ofNat]
theorem q_sub (x y : Rat) : Rat.divInt (x.num * (y.den : Int) - y.num * (x.den : Int)) ((x.den : Int) * (y.den : Int)) = x - y := by
  rw [Rat.sub_def', ← Int.natCast_mul, Rat.divInt_ofNat]
theorem q_mul (x y : Rat) : Rat.divInt (x.num * y.num) ((x.den : Int) * (y.den : Int)) = x * y := by
  rw [Rat.mul_def', ← Int.natCast_mul, Rat.divInt_ofNat]
theorem q_neg (x : Rat) : Rat.divInt (-x.num) (x.den : Int) = -x := by
  rw [← Rat.neg_divInt, Rat.num_divInt_den]
theorem q_inv (x : Rat) : Rat.divInt (x.den : Int) x.num = x⁻¹ := by
  rw [Rat.inv_def]
theorem den_pos' (x : Rat) : 0 < (x.den : Int) := by have := x.den_pos; omega
theorem Sz.nn {b : Nat} {q : Rat} (h : Sz b q) : q.num.natAbs < 2 ^ b := h.n
theorem Sz.dd {b : Nat} {q : Rat} (h : Sz b q) : ((q.den : Int)).natAbs < 2 ^ b := by rw [Int.natAbs_natCast]; exact h.d
theorem mul_b {i j : Int} {a b : Nat} (h1 : i.natAbs < 2 ^ a) (h2 : j.natAbs < 2 ^ b) : (i * j).natAbs < 2 ^ (a + b) := wide_lt h1 h2
theorem add_b {i j : Int} {a : Nat} (h1 : i.natAbs < 2 ^ a) (h2 : j.natAbs < 2 ^ a) : (i + j).natAbs < 2 ^ (a + 1) := by
  have := Int.natAbs_add_le i j
  rw [Nat.pow_succ]; omega
theorem sub_b {i j : Int} {a : Nat} (h1 : i.natAbs < 2 ^ a) (h2 : j.natAbs < 2 ^ a) : (i - j).natAbs < 2 ^ (a + 1) := by
  have := Int.natAbs_sub_le i j
  rw [Nat.pow_succ]; omega
theorem up_b {i : Int} {a b : Nat} (h1 : i.natAbs < 2 ^ a) (h : a ≤ b) : i.natAbs < 2 ^ b := Nat.lt_of_lt_of_le h1 (Nat.pow_le_pow_right (by decide) h)
end Sf

namespace Sf
open PySem L2
theorem passB {P : Program} {w : World} {K : PySem.W.Frag} {mg : Str → Option Value} {base : Heap} {N : List Str} {qual : Str} {scope : Scope} {f : Addr} {cdv : Value} {A : Around} {outer : List Env} {s : Shared} {H : Hp} {E : XK} :
    PassesOwn (model (cxB P w K mg base N qual scope f cdv A outer s H E).prog (cxB P w K mg base N qual scope f cdv A outer s H E).w) (cxB P w K mg base N qual scope f cdv A outer s H E).A (cxB P w K mg base N qual scope f cdv A outer s H E).env (cxB P w K mg base N qual scope f cdv A outer s H E).xe := passes_of rfl
def spPowI : DSp := fun ds P _ => ∃ (x : Int) (k : Nat), ds = [dI x, dI k, dI 1] ∧ (∀ i, i ≤ k → (x ^ i).natAbs < 2 ^ 3000) ∧ P (dI (x ^ k))
theorem mul_half1 (i : Nat) {m : Nat} (h : m % 2 = 1) : i * m = 2 * i * (m / 2) + i := by
  have q : m = 2 * (m / 2) + 1 := by omega
  generalize m / 2 = h at *
  subst q
  grind
theorem mul_half0 (i : Nat) {m : Nat} (h : m % 2 = 0) : i * m = 2 * i * (m / 2) := by
  have q : m = 2 * (m / 2) := by omega
  generalize m / 2 = h at *
  subst q
  grind
theorem ediv_two (m : Nat) : (m : Int) / 2 = ((m / 2 : Nat) : Int) := rfl
theorem emod_two (m : Nat) : (m : Int) % 2 = ((m % 2 : Nat) : Int) := rfl
end Sf

namespace Sf
open PySem L2
/-! ### digits -/
theorem ofString_app (a b : String) : Str.ofString (a ++ b) = Str.ofString a ++ Str.ofString b := by
  apply Str.ext'
  rw [Str.cps_append, Str.ofString_eq_toList, Str.ofString_eq_toList, Str.ofString_eq_toList]
  simp
theorem str_neg {n : Int} (h : n < 0) : (Str.ofString (toString n)) = Str.ofString "-" ++ Str.ofString (toString (-n)) := by
  rw [PyProof.Rows.toString_neg h, ofString_app, Int.zero_sub]
theorem log2_small {n b : Nat} (h : n < 2 ^ b) (hb : 0 < b) : n.log2 < b := by
  by_cases h0 : n = 0
  · subst h0; simpa using hb
  · exact (Nat.log2_lt h0).mpr h
theorem digits_len (n : Nat) : ∀ k, n < 10 ^ k → 0 < k → (Nat.toDigits 10 n).length ≤ k := by
  intro k h hk
  exact (Nat.length_toDigits_le_iff (by decide) hk).mpr h
theorem str_len {n : Int} {k : Nat} (h0 : 0 ≤ n) (h : n.natAbs < 10 ^ k) (hk : 0 < k) : (Str.ofString (toString n)).length ≤ k := by
  obtain ⟨m, rfl⟩ := Int.eq_ofNat_of_zero_le h0
  have e := PySem.W.KIN.signs_num m
  have e2 : (Str.ofString (toString ((m : Nat) : Int))).length = (Nat.toDigits 10 m).length := by
    have := congrArg List.length e
    rw [List.length_map] at this
    rw [← this]
    rfl
  rw [e2]
  exact digits_len m k (by simpa using h) hk
def spDig : DSp := fun ds P _ => ∃ n : Int, ds = [dI n] ∧ n.natAbs < 10 ^ 64 ∧ P (dS (toString n))
def spStrQ (K : PySem.W.Frag) : DSp := fun ds P _ => ∃ x, ds = [ratD K x] ∧ x.num.natAbs < 10 ^ 64 ∧ x.den < 10 ^ 64 ∧ P (dS (if x.den = 1 then toString x.num else (toString x.num : Str) ++ ("/" ++ (toString (x.den : Int) : Str))))
def spPowQ (K : PySem.W.Frag) : DSp := fun ds P R => ∃ (x : Rat) (k : Int), ds = [ratD K x, dI k] ∧ (k < 0 → x = 0 → R (He.ga K "ZeroDivisor")) ∧ (0 ≤ k ∨ x ≠ 0 → (∀ i, i ≤ k.natAbs → Sz 3000 (x ^ i)) ∧ P (ratD K (x ^ k)))
def spPowQ0 (K : PySem.W.Frag) : DSp := fun ds P _ => ∃ (x : Rat) (k : Nat), ds = [ratD K x, dI k] ∧ (∀ i, i ≤ k → Sz 3000 (x ^ i)) ∧ P (ratD K (x ^ k))
theorem q_pow (x : Rat) (k : Nat) : Rat.divInt (x.num ^ k) ((x.den : Int) ^ k) = x ^ k := by
  have := Rat.num_divInt_den (x ^ k)
  rw [Rat.num_pow, Rat.den_pow] at this
  rw [← this]
  congr 1
theorem inv_pow (x : Rat) (k : Nat) : x⁻¹ ^ k = (x ^ k)⁻¹ := by
  induction k with
  | zero => rw [Rat.pow_zero, Rat.pow_zero]; decide +kernel
  | succ k ih => rw [Rat.pow_succ, Rat.pow_succ, ih, Rat.inv_mul_rev, Rat.mul_comm]
theorem pow_ne {x : Rat} (h : x ≠ 0) (k : Nat) : x ^ k ≠ 0 := by
  induction k with
  | zero => rw [Rat.pow_zero]; decide
  | succ k ih =>
    rw [Rat.pow_succ]
    intro z
    rcases Rat.mul_eq_zero.mp z with z | z
    · exact ih z
    · exact h z
theorem sz_inv {b : Nat} {x : Rat} (h : Sz b x) (hx : x ≠ 0) : Sz b x⁻¹ := by
  have h0 : x.num ≠ 0 := fun z => hx (Rat.num_eq_zero.mp z)
  have e := q_inv x
  constructor
  · rw [← e, Rat.num_divInt]
    have : x.num.gcd (x.den : Int) = 1 := by have := x.reduced; unfold Int.gcd; rw [Int.natAbs_natCast]; exact this
    rw [this]
    rcases Int.lt_or_gt_of_ne h0 with q | q
    · rw [Int.sign_eq_neg_one_of_neg q]; have := h.d; omega
    · rw [Int.sign_eq_one_of_pos q]; have := h.d; omega
  · rw [← e, Rat.den_divInt, if_neg h0]
    exact Nat.lt_of_le_of_lt (Nat.div_le_self _ _) h.n
end Sf
namespace Sf
open PySem L2
/-! ### numbers modulo a small prime -/
def primes : List Int := [2, 3, 5, 7, 11, 13, 17, 19, 23, 29, 31]
def isP (i : Int) : Bool := inV (.int i) (primes.map V.int)
theorem isP_mem {i : Int} : isP i = true ↔ i ∈ primes := by
  unfold isP inV primes
  simp only [List.map_cons, List.map_nil, List.any_cons, List.any_nil, eqV, Bool.or_eq_true, beq_iff_eq, Bool.or_false, List.mem_cons, List.not_mem_nil, or_false]
  constructor <;> intro h <;> simpa [eq_comm] using h
/-- p is a small prime, n a number below it -/
structure RB (p n : Int) : Prop where
  pr : isP p = true
  lo : 0 ≤ n
  hi : n < p
theorem isP_range {p : Int} (h : isP p = true) : 2 ≤ p ∧ p ≤ 31 := by
  have := isP_mem.mp h
  simp only [primes, List.mem_cons, List.not_mem_nil, or_false] at this
  omega
theorem RB.mod {p : Int} (h : isP p = true) (n : Int) : RB p (n % p) := by
  have := isP_range h
  exact ⟨h, Int.emod_nonneg _ (by omega), Int.emod_lt_of_pos _ (by omega)⟩
theorem RB.self {p n : Int} (h : RB p n) : n % p = n := Int.emod_eq_of_lt h.lo h.hi
theorem RB.small {p n : Int} (h : RB p n) : n < 31 ∧ p ≤ 31 ∧ 2 ≤ p := by have := isP_range h.pr; have := h.hi; omega
/-- other than a number modulo p -/
def BadR (K : PySem.W.Frag) (p : Int) (d : Dat) : Prop := NoI K (He.ga K "Residue") d ∨ ∃ q m, d = resD K q m ∧ q ≠ p
def spPrime (K : PySem.W.Frag) : DSp := fun ds P _ => ∃ d, ds = [d] ∧ ((∃ i, d = dI i ∧ P (dB (isP i))) ∨ IntB K d false ∧ P (dB false))
def NoPr (K : PySem.W.Frag) (d : Dat) : Prop := (∃ i, d = dI i ∧ isP i = false) ∨ IntB K d false
def spMkR (K : PySem.W.Frag) : DSp := fun ds P R => ∃ dp dn, ds = [dp, dn] ∧ ((∃ p n, dp = dI p ∧ isP p = true ∧ dn = dI n ∧ P (resD K p (n % p))) ∨ NoPr K dp ∧ R (He.ga K "Malformed") ∨ (∃ p, dp = dI p ∧ isP p = true ∧ IntB K dn false ∧ R (He.ga K "Malformed")))
def spReqR (K : PySem.W.Frag) : DSp := fun ds P R => ∃ p n d, ds = [resD K p n, d] ∧ ((∃ m, d = resD K p m) ∧ P dN ∨ BadR K p d ∧ R (He.ga K "Malformed"))
def spOpR (K : PySem.W.Frag) (f : Int → Int → Int) : DSp := fun ds P R => ∃ p n d, ds = [resD K p n, d] ∧ RB p n ∧ ((∃ m, d = resD K p m ∧ RB p m ∧ P (resD K p (f n m % p))) ∨ BadR K p d ∧ R (He.ga K "Malformed"))
def spNegR (K : PySem.W.Frag) : DSp := fun ds P _ => ∃ p n, ds = [resD K p n] ∧ RB p n ∧ P (resD K p (-n % p))
def spEqR (K : PySem.W.Frag) : DSp := fun ds P _ => ∃ p n d, ds = [resD K p n, d] ∧ ((∃ q m, d = resD K q m ∧ P (dB (decide (p = q ∧ n = m)))) ∨ NoI K (He.ga K "Residue") d ∧ P (dB false))
def spStrR (K : PySem.W.Frag) : DSp := fun ds P _ => ∃ p n, ds = [resD K p n] ∧ RB p n ∧ P (dS (toString n))
def spZeroR (K : PySem.W.Frag) : DSp := fun ds P _ => ∃ p n, ds = [resD K p n] ∧ P (dB (decide (n = 0)))
def spPowRR (K : PySem.W.Frag) : DSp := fun ds P _ => ∃ (p x : Int) (k : Nat), ds = [resD K p x, dI k, resD K p 1] ∧ RB p x ∧ P (resD K p (x ^ k % p))
def spPowR0 (K : PySem.W.Frag) : DSp := fun ds P _ => ∃ (p x : Int) (k : Nat), ds = [resD K p x, dI k] ∧ RB p x ∧ P (resD K p (x ^ k % p))
def spInvR (K : PySem.W.Frag) : DSp := fun ds P R => ∃ p n, ds = [resD K p n] ∧ RB p n ∧ (n = 0 → R (He.ga K "ZeroDivisor")) ∧ (n ≠ 0 → P (resD K p (n ^ (p - 2).toNat % p)))
def spOverR (K : PySem.W.Frag) : DSp := fun ds P R => ∃ p n d, ds = [resD K p n, d] ∧ RB p n ∧ ((∃ m, d = resD K p m ∧ RB p m ∧ (m = 0 → R (He.ga K "ZeroDivisor")) ∧ (m ≠ 0 → P (resD K p (n * (m ^ (p - 2).toNat % p) % p)))) ∨ BadR K p d ∧ R (He.ga K "Malformed"))
def spPowR (K : PySem.W.Frag) : DSp := fun ds P R => ∃ (p n k : Int), ds = [resD K p n, dI k] ∧ RB p n ∧ (k < 0 → n = 0 → R (He.ga K "ZeroDivisor")) ∧ (0 ≤ k → P (resD K p (n ^ k.toNat % p))) ∧ (k < 0 → n ≠ 0 → P (resD K p ((n ^ (p - 2).toNat % p) ^ (-k).toNat % p)))
theorem pow_mod_mul (x p : Int) (i j : Nat) : x ^ i % p * (x ^ j % p) % p = x ^ (i + j) % p := by rw [← Int.mul_emod, ← Int.pow_add]
section
variable {X : Cx} {W : WX} {R : RX} {ρ : List Sl} {P : PD}
/-- x in a tuple of ints -/
theorem od_inT {i : Int} {js : List Int} (p : P (dB (inV (.int i) (js.map V.int))) ρ) : OpD X W R (compareOp .In) (dI i) (.tup (js.map dI)) ρ P :=
  .of op_in_seq fun x y F H Q e h1 h2 q => by
    cases is_v h1
    cases h2 with
    | tup ha hs =>
      have e2 : ∀ {ds : List Dat} {vs : List V}, Isl X.K ds vs F → ∀ js : List Int, ds = js.map dI → vs = js.map V.int := fun {ds vs} hs => by
        intro js
        induction js generalizing ds vs with
        | nil => intro z; subst z; cases hs; rfl
        | cons j js ih => intro z; subst z; cases hs with | cons h1 h2 => rw [is_v h1, ih h2 rfl]; rfl
      have e3 := e2 hs js rfl
      subst e3
      refine ⟨_, _, rfl, .inr (e.sqt ha), rfl, ?_, q _ _ F H (.refl e) .v p⟩
      rw [List.all_map]
      exact List.all_eq_true.mpr fun _ _ => rfl
end
end Sf
namespace Sf
open PySem L2
section
variable {X : Cx} {W : WX} {R : RX} {e a b c o : Expr} {es : List Expr} {st : Stmt} {sts rest body : List Stmt} {ρ : List Sl} {P : PD} {k : Kn} {pos pos' p apos : Pos} {x m : Str} {l : Nat} {dd : List V} {s : DSp}
/-- a's reading, then b's, whatever operation follows by values -/
theorem tU2 {σ : L2.St} {na : Option Addr} {F0 H0 F H : Hp} {r : V → V → Hp → Prop} (h : WE X W R a ρ fun d1 ρ1 => WE X W R b ρ1 fun d2 ρ2 => ∀ x y F2 H2, Cur na F0 H0 F2 H2 → Env1 X.K ρ2 σ na H0 F2 H2 → Is X.K d1 x F2 → Is X.K d2 y F2 → r x y H2)
    (c : Cur na F0 H0 F H) (n : Env1 X.K ρ σ na H0 F H) (xo : ExcOk X.K W R na F0 H0) : tU X W a σ H fun x H1 => tU X W b σ H1 fun y H2 => r x y H2 :=
  ⟨ρ, _, R, na, F0, H0, F, h, c, n, xo, fun d1 v1 ρ1 F1 H1 c1 n1 h1 p1 => ⟨ρ1, _, R, na, F1, H0, F1, p1, c1.re, n1, xo.re c1, fun d2 v2 ρ2 F2 H2 c2 n2 h2 p2 => p2 v1 v2 F2 H2 (c1.back c2) n2 (h1.mono c2.ff) h2⟩⟩
/-- an item of a list or tuple -/
theorem we_ix (h : WE X W R a ρ fun d1 ρ1 => WE X W R b ρ1 fun d2 ρ2 => ∃ ds d, (d1 = .lst ds ∨ d1 = .tup ds) ∧ ((∃ j : Nat, d2 = dI j ∧ ds[j]? = some d) ∨ (d2 = dI (-1) ∧ ds[ds.length - 1]? = some d)) ∧ P d ρ2) (hs : PlainIx b := by exact fun _ _ => rfl) : WE X W R (.Subscript a b pos) ρ P :=
  .of (pe_ix ix_seq (pe_U (W := W)) (pe_U (W := W)) hs) fun σ na F0 H0 F H Q c n xo q => by
    refine tU2 (h.imp fun d1 ρ1 hb => hb.imp fun d2 ρ2 hh x y F2 H2 c2 n2 i1 i2 => ?_) c n xo
    obtain ⟨ds, d, e1, e2, hp⟩ := hh
    have at_ : ∀ {vs : List V}, Isl X.K ds vs F2 → ∃ i v, y = .int i ∧ atI vs i = some v ∧ Is X.K d v F2 := fun {vs} hi => by
      rcases e2 with ⟨j, rfl, hj⟩ | ⟨rfl, hj⟩
      · obtain ⟨v, h1, h2⟩ := hi.get hj
        exact ⟨j, v, is_v i2, atI_nat h1, h2⟩
      · obtain ⟨v, h1, h2⟩ := hi.get hj
        refine ⟨-1, v, is_v i2, ?_, h2⟩
        rw [hi.length] at h1
        have hl : vs.length - 1 < vs.length := (List.getElem?_eq_some_iff.mp h1).1
        have e : ixN vs.length (-1) = some (vs.length - 1) := by
          unfold ixN
          rw [if_neg (by decide), if_pos (by omega)]
          congr 1
          omega
        unfold atI
        rw [e]
        exact h1
    rcases e1 with rfl | rfl
    · cases i1 with
      | lst ha hi =>
        obtain ⟨i, v, ey, h1, h2⟩ := at_ hi
        exact .inl ⟨_, _, i, v, rfl, ey, c2.fh.sql ha, h1, q d v ρ2 F2 H2 c2 n2 h2 hp⟩
    · cases i1 with
      | tup ha hi =>
        obtain ⟨i, v, ey, h1, h2⟩ := at_ hi
        exact .inr (.inl ⟨_, _, i, v, rfl, ey, c2.fh.sqt ha, h1, q d v ρ2 F2 H2 c2 n2 h2 hp⟩)
end
/-! ### the laws' own helpers -/
def intsD (xs : List Int) : List Dat := xs.map dI
def spNums : LSp := fun ds P => ∃ ns : List Int, ds = [.lst (intsD ns)] ∧ ns.length ≤ 63 ∧ ∀ xs : List Int, xs.length ≤ 3780 → P (intsD xs)
def spNext : NSp := fun us ds P => ∃ (xs : List Int) (many : Int), us = intsD xs ∧ ds = [dI many] ∧ 0 < many ∧ ∀ (r : Int) (xs' : List Int), 0 ≤ r → r < many → P (dI r) (intsD xs')
def spCommon : DSp := fun ds P _ => ∃ a b : Int, ds = [dI a, dI b] ∧ 0 ≤ b ∧ P (dI ((Nat.gcd a.natAbs b.natAbs : Nat) : Int))
theorem ints_app (xs : List Int) (i : Int) : intsD xs ++ [dI i] = intsD (xs ++ [i]) := by unfold intsD; rw [List.map_append]; rfl
theorem ints_len (xs : List Int) : (intsD xs).length = xs.length := List.length_map _
theorem ints_get {xs : List Int} {i : Nat} (h : i < xs.length) : ∃ z, (intsD xs)[i]? = some (dI z) := ⟨xs[i], by unfold intsD; rw [List.getElem?_map, List.getElem?_eq_getElem h]; rfl⟩
theorem gcd_step {a b : Int} (h : 0 < b) : Nat.gcd b.natAbs (a % b).natAbs = Nat.gcd a.natAbs b.natAbs := by
  have e : Int.gcd b (a % b) = Int.gcd a b := by
    have h1 : Int.gcd (a % b + b * (a / b)) b = Int.gcd (a % b) b := Int.gcd_add_mul_left_left ..
    have h2 : a % b + b * (a / b) = a := by have := Int.emod_def a b; omega
    rw [h2] at h1
    rw [Int.gcd_comm, h1]
  exact e
end Sf
namespace PySem.W
open PySem PySem.Calls PyProof.Rows
open Builtin Builtin.Str
section
variable {prog : Program} {w : World} {A : Around} {E : Value → Shared → Prop} {s : Shared} {K : Frag} {x C f : Addr} {ox : Obj} {od : Option Obj}
/-- str(x) by the __str__ of x's own class -/
theorem sf_str {Q : Value → Shared → Prop} (hu : A.units + 2 < cLine) (X : K.In s.heap) (I : InstAt s.heap x ox C od) (hs : findIn K (.ref C) "__str__" = some (some (.ref f))) (hf : isFn K (.ref f) = true)
    (h : wpAny (model prog w) A.in1.in1 (call (.ref f) [.ref x]) (fun v s' => ∃ y t, v = .str y t ∧ Q v s') E s) : wpAny (model prog w) A (call (.type "str") [.ref x]) Q E s := by
  have made : PySem.MeetsIn prog w (Builtin.«str.__new__» ⟨[.type "str", .ref x], []⟩) (fun A' R s' => A'.in1.units < cLine ∧ wpAny (model prog w) A'.in1 (callSpecial? (.ref x) "__str__") (fun r s1 => ∃ y t, r = some (.str y t) ∧ R (.ok (.ret (.str y t))) s1) (fun e s1 => R (.error e) s1) s') := by
    refine .of_wp fun A' R s' hh => ?_
    obtain ⟨u1, h1⟩ := hh
    rw [str_new_tree (.ref x)]
    have first : wpAny (model prog w) A'.in1 (Builtin.Str.strOf (.ref x)) (fun r s1 => R (.ok (.ret r)) s1) (fun e s1 => R (.error e) s1) s' := by
      unfold Builtin.Str.strOf
      have e0 : isExactStr (.ref x) = false := rfl
      rw [e0]
      refine wpAny_bind (m := cRoomFor _ _) (wpAny_cRoomFor u1 (wpAny_bind (m := callSpecial? _ _ _) (wpAny_mono h1 (fun r s1 hr => ?_) fun _ _ e => e)))
      obtain ⟨y, t, rfl, hq⟩ := hr
      exact wpAny_pure hq
    exact wpAny_bind (wpAny_pure (wpAny_bind (wpAny_of_eq isSubtype_str_str (wpAny_bind (wpAny_mono first (fun r s1 hr => wpAny_pure ⟨r, rfl, hr⟩) fun _ _ e => e)))))
  refine callType_newIn F.called_str (by decide) (F.typeCall_str_1 _) (F.newCall_str_1 _) (fun obj => F.args_object_init_2 obj _) F.entry_str_new made ⟨?_, ?_⟩
  · show A.units + 1 + 1 < cLine
    omega
  · refine special_fn X I hs (beq_iff_eq.mp hf) (wpAny_mono h (fun v s1 z => ?_) fun _ _ e => e)
    obtain ⟨y, t, rfl, q⟩ := z
    exact ⟨y, t, rfl, typeIs_str _ _ _, q⟩
end
end PySem.W
namespace Sf
open PySem L2
section
variable {X : Cx} {W : WX} {R : RX} {e a b c o : Expr} {es : List Expr} {st : Stmt} {sts rest body : List Stmt} {ρ : List Sl} {P : PD} {k : Kn} {pos pos' p apos : Pos} {x m : Str} {l : Nat} {dd : List V} {s : DSp}
theorem run_in2 {pins : List (Addr × Obj)} {σ : L2.St} {H : Hp} {s0 : Shared} {Q : VK} {us : List Value} {vs : List V} {f : Addr} {fd : FuncData} {ps : List Str} {sp : Sp} (F : FnOk X.prog X.w X.K X.mg X.base (L2.CX X.prog X.w) l f fd ps sp) (hr : Room l X.A.in1.in1) (hb : Binds X.K fd ps []) (tk : Takes X W)
    (I : Inv X pins σ H s0) (r : Vals vs us) (h : sp vs H Q (L2.WE W σ)) : wpAny (model X.prog X.w) X.A.in1.in1 (call (.ref f) us) (EP X pins σ Q) X.xe s0 := by
  have hl : us.length = ps.length := by rw [← r.length]; exact F.len _ _ _ _ h
  have b := hb s0 us I.kIn (by rw [List.append_nil]; exact hl)
  rw [List.append_nil] at b
  refine wpAny_call (codeAny_mono (F.run X.A.in1.in1 X.stack s0 H ⟨us, []⟩ us vs Q (L2.WE W σ) hr I.env0.in1.in1 b r h) fun r s' hq => ?_)
  cases r with
  | error e => exact passAt tk σ pins H s0 e s' I hq
  | ok fl =>
    cases fl with
    | ret u => exact I.after hq
    | next => exact False.elim hq
    | brk => exact False.elim hq
    | cont => exact False.elim hq
/-- str(x) of an own class with __str__ -/
theorem we_strO {q : Pos} (hm : X.mg "str" = none) (hr : Room (l + 2) X.A) (tk : Takes X W) (h : WA X W R [a] ρ fun ds ρ' => ∃ C ks fs s, ds = [.ins C ks fs] ∧ Mg X.prog X.w X.K X.mg X.base C "__str__" l [] s ∧ s [.ins C ks fs] (fun d => ∃ y : Str, d = dS y ∧ P (dS y) ρ') (fun C => R C ρ')) (hg : Gl X "str" := by rfl)
    (he : starEach [a] X.env = (false, eval a X.env) :: starEach [] X.env := by rfl) (hpl : (backTo pos (starEach [] X.env)).any (·.1) = false := by rfl) : WE X W R (.Call (.Name "str" q) [a] [] pos) ρ P := by
  refine ⟨fun pins s0 σ na F0 H0 F H Q I c n xo q => ?_⟩
  refine wpAny_Call_Name_kw (ld_blt I hg hm (show bootBuiltins "str" = some (.type "str") by decide +kernel) ?_ (by decide) (by decide))
  refine PyProof.Rows.callWith_type1 (thn (h.run pos pins s0 σ na F0 H0 F H (fun vs H1 => ∃ ds ρ1 F1, Cur na F0 H0 F1 H1 ∧ Env1 X.K ρ1 σ na H0 F1 H1 ∧ Isl X.K ds vs F1 ∧ ∃ C ks fs s, ds = [.ins C ks fs] ∧ Mg X.prog X.w X.K X.mg X.base C "__str__" l [] s ∧ s [.ins C ks fs] (fun d => ∃ y : Str, d = dS y ∧ P (dS y) ρ1) (fun C => R C ρ1)) I c n xo fun ds vs ρ' F' H' c' n' hi hs => ⟨ds, ρ', F', c', n', hi, hs⟩) fun us s1 hh => ?_) he hpl
  obtain ⟨vs, H1, I1, r, ds, ρ1, F1, c1, n1, hi, C, ks, fs, sp, rfl, G, hs⟩ := hh
  cases hi with
  | cons h1 h2 =>
  cases h2
  have g1 := h1
  cases h1 with
  | ins ha hz hs1 =>
  obtain ⟨u, rfl, ru⟩ := vals1 r
  cases ru
  obtain ⟨f, fd, ps, dv, Fn, hmm, hb, hd⟩ := G.ex
  cases hd
  obtain ⟨mA, J, _⟩ := ins_get I1.hok (c1.fh _ _ ha)
  obtain ⟨od, J, _⟩ := J.look
  refine PySem.W.sf_str (by have := hr.un; omega) I1.kIn J hmm.at_ hmm.fn ?_
  have z1 : lift X.K sp ([.ref _] ++ []) H1 (fun v H' => ∃ y : Str, v = .str y ∧ Q (.str y) H') (L2.WE W σ) :=
    lift_go (dd := []) (P := fun d ρ' => ∃ y : Str, d = dS y ∧ P (dS y) ρ') (ds := [.ins C ks fs]) hs (.cons g1 .nil) c1 n1 xo fun d v ρ' F' H' c' n' hd ⟨b, e, p⟩ => by
      subst e
      exact ⟨b, is_v hd, q _ _ ρ' F' H' c' n' .v p⟩
  refine wpAny_mono (run_in2 (vs := [.ref _]) (us := [.ref _]) Fn hr.in1.in1 hb tk I1 (.cons rfl .nil) z1) (fun v s' z => ?_) fun _ _ e => e
  obtain ⟨v', H', I', rv, y, e, qq⟩ := z
  subst e
  obtain ⟨t, rfl⟩ := rv
  exact ⟨y, t, rfl, .str y, H', I', ⟨t, rfl⟩, qq⟩
theorem str_eq {i j : Str} : decide (V.str i = V.str j) = decide (i = j) := by
  by_cases h : i = j
  · subst h; simp
  · rw [decide_eq_false h, decide_eq_false (fun z => h (V.str.inj z))]
theorem od_neS {i j : Str} (p : P (dB (!decide (i = j))) ρ) : OpD X W R (compareOp .NotEq) (dS i) (dS j) ρ P := od_ne rfl (by rw [str_eq]; exact p)
theorem od_eqS {i j : Str} (p : P (dB (decide (i = j))) ρ) : OpD X W R (compareOp .Eq) (dS i) (dS j) ρ P := od_eq rfl (by rw [str_eq]; exact p)
/-- an if whose branches meet again -/
theorem wss_join (J : List Sl → Prop) (h : WS X W R st ρ { k with nx := J }) (hj : ∀ ρ', J ρ' → WSs X W R rest ρ' k) : WSs X W R (st :: rest) ρ k :=
  wss_cons ⟨fun pins s σ na F0 H0 F H D I c n x q => h.run pins s σ na F0 H0 F H D I c n x ⟨fun ρ' σ' F' H' c' n' p => q.nx ρ' σ' F' H' c' n' (hj ρ' p), q.rt, q.bk, q.ct, q.ro⟩⟩
/-- the slots, written out -/
theorem wss_at (ρ' : List Sl) (h : WSs X W R sts ρ' k) (e : ρ = ρ' := by rfl) : WSs X W R sts ρ k := e ▸ h
end
/-! ### fractions of small parts -/
theorem q_div (a : Int) {b : Int} (hb : b ≠ 0) : (Rat.divInt a b).num * b = a * ((Rat.divInt a b).den : Int) ∧ (Rat.divInt a b).num.natAbs ≤ a.natAbs ∧ (Rat.divInt a b).den ≤ b.natAbs := by
  generalize hq : Rat.divInt a b = q
  have h1 : a * (q.den : Int) = q.num * b := by
    have e : Rat.divInt a b = Rat.divInt q.num (q.den : Int) := by rw [hq, Rat.num_divInt_den]
    exact (Rat.divInt_eq_divInt_iff hb (by have := q.den_pos; omega)).mp e
  have h2 : q.num.natAbs * b.natAbs = a.natAbs * q.den := by
    have := congrArg Int.natAbs h1
    rw [Int.natAbs_mul, Int.natAbs_mul, Int.natAbs_natCast] at this
    omega
  have hc : Nat.Coprime q.num.natAbs q.den := q.reduced
  refine ⟨h1.symm, ?_, ?_⟩
  · by_cases ha : a = 0
    · subst ha
      have : q.num.natAbs * b.natAbs = 0 := by rw [h2]; simp
      rcases Nat.mul_eq_zero.mp this with z | z
      · omega
      · omega
    · exact Nat.le_of_dvd (by omega) (hc.dvd_of_dvd_mul_right (by rw [← h2]; exact Nat.dvd_mul_right _ _))
  · exact Nat.le_of_dvd (by omega) (hc.symm.dvd_of_dvd_mul_left (by rw [h2]; exact Nat.dvd_mul_left _ _))
theorem small_b {n m b : Nat} (h : n ≤ m) (hm : m < 2 ^ 64) (hb : 64 ≤ b) : n < 2 ^ b := Nat.lt_of_le_of_lt h (Nat.lt_of_lt_of_le hm (Nat.pow_le_pow_right (by decide) hb))
theorem sz_small {x : Rat} {m b : Nat} (h1 : x.num.natAbs ≤ m) (h2 : x.den ≤ m) (hm : m < 2 ^ 64) (hb : 64 ≤ b) : Sz b x := ⟨small_b h1 hm hb, small_b h2 hm hb⟩
theorem sz_pow {x : Rat} {i b : Nat} (h1 : x.num.natAbs ≤ 12) (h2 : x.den ≤ 12) (hi : i ≤ 8) (hb : 64 ≤ b) : Sz b (x ^ i) := by
  have le : ∀ {n : Nat}, n ≤ 12 → n ^ i ≤ 12 ^ 8 := fun {n} h => Nat.le_trans (Nat.pow_le_pow_left h i) (Nat.pow_le_pow_right (by decide) hi)
  refine sz_small (m := 12 ^ 8) ?_ ?_ (by decide) hb
  · rw [Rat.num_pow, Int.natAbs_pow]; exact le h1
  · rw [Rat.den_pow]; exact le h2
end Sf
namespace Sf
open PySem PySem.Spec PyProof.Rows L2
theorem isl_ints {K : PySem.W.Frag} {F : Hp} : ∀ ns : List Int, Isl K (intsD ns) (ns.map V.int) F
  | [] => .nil
  | _ :: ns => .cons .v (isl_ints ns)
/-- the law's own script, as it comes in -/
def spScript : DSp := fun ds P _ => ∃ ns : List Int, ds = [.lst (intsD ns)] ∧ ns.length ≤ 63 ∧ P (dB true)
/-- a law's def, wished for over data -/
theorem walk_d {l : PySem.W.OpenLaw} {k : Nat} {q : Program} {loose : List Str} {XP : (Str → Option Value) → Heap → Prop} {YP : World → Heap → Prop} {d : DefRec} {x : Str} (h63 : l.most = some 63) (nd : d.params.defaults = []) (room : Room k callerA)
    (at_ : ∀ (w : World) (mg : Str → Option Value) (fa : Addr) (h : Heap), YP w h → h.Ns mainGlobals mg → mg d.name = some (.ref fa) → ∃ (K : PySem.W.Frag) (fd : FuncData), K.In h ∧ (∀ (s : Shared) (u : Value), BindsTo s fd ⟨[u], []⟩ [(x, u)]) ∧
      ∀ base : Heap, K.In base → base.Ns mainGlobals mg → FnOk l.prog w K mg base (L2.CX l.prog w) k fa fd [x] (lift K spScript)) : PySem.W.WalkO q loose XP YP l.row.toRowW d [] (fun f vs => PySem.call f vs) := by
  refine Att.attach_call h63 nd fun w t₀ t₁ mg mb fa o pm cd doc a us ns G Y ho hd hcd named obj_ ints_ few_ goal_ => ?_
  obtain ⟨K, fd, KX, binds_, keeps_⟩ := at_ w mg fa _ Y G.T.g named
  refine law_call KX G.T.g G.T.b G.T.builtins G.T.nolimit goal_ obj_ ints_ (Nat.le_trans few_ (by decide)) room keeps_ binds_ (fun H hO hS => ?_) fun H e s' hx => ?_
  · exact ⟨H, [.lst (intsD ns)], fun d => d = dB true, fun _ => False, Ex.refl H, .cons (.lst hS (isl_ints ns)) .nil, ⟨ns, rfl, few_, rfl⟩, fun d v F' H' _ hd e => by subst e; exact is_v hd, fun _ _ _ _ z => z⟩
  · obtain ⟨_, _, _, _, _, _, _, _, _, _, _, _, z⟩ := hx
    exact z
end Sf
namespace Sf
open PySem L2

/-! ### list comprehensions whose items raise nothing; they may change lists of the def's own -/
def pur1 : Sl → Sl
  | .pu d => .pu d
  | _ => .no
/-- the block's own names forgotten -/
def wip (ρ : List Sl) : List Nat → List Sl
  | [] => ρ
  | v :: vs => (wip ρ vs).set v .no
/-- behind the block: what its names hid stands again -/
def bak (ρ0 ρ : List Sl) : List Nat → List Sl
  | [] => ρ
  | v :: vs => (bak ρ0 ρ vs).set v (match ρ0[v]? with | some s => pur1 s | none => .no)
theorem wip_some {ρ : List Sl} {i : Nat} {s : Sl} : ∀ {vs : List Nat}, (wip ρ vs)[i]? = some s → s = .no ∨ (ρ[i]? = some s ∧ i ∉ vs)
  | [], h => .inr ⟨h, by simp⟩
  | v :: vs, h => by
    unfold wip at h
    by_cases q : v = i
    · subst q
      rw [List.getElem?_set_self'] at h
      cases e : (wip ρ vs)[v]? with
      | none => rw [e] at h; cases h
      | some t => rw [e] at h; cases h; exact .inl rfl
    · rw [List.getElem?_set_ne q] at h
      rcases wip_some h with z | ⟨z1, z2⟩
      · exact .inl z
      · exact .inr ⟨z1, by simp only [List.mem_cons, not_or]; exact ⟨fun e => q e.symm, z2⟩⟩
theorem wip_length (ρ : List Sl) : ∀ vs : List Nat, (wip ρ vs).length = ρ.length
  | [] => rfl
  | v :: vs => by unfold wip; rw [List.length_set, wip_length ρ vs]
theorem bak_length (ρ0 ρ : List Sl) : ∀ vs : List Nat, (bak ρ0 ρ vs).length = ρ.length
  | [] => rfl
  | v :: vs => by unfold bak; rw [List.length_set, bak_length ρ0 ρ vs]
theorem bak_some {ρ0 ρ : List Sl} {i : Nat} {s : Sl} : ∀ {vs : List Nat}, (bak ρ0 ρ vs)[i]? = some s → (i ∈ vs ∧ (s = .no ∨ ∃ d, s = .pu d ∧ ρ0[i]? = some (.pu d))) ∨ (ρ[i]? = some s ∧ i ∉ vs)
  | [], h => .inr ⟨h, by simp⟩
  | v :: vs, h => by
    unfold bak at h
    by_cases q : v = i
    · subst q
      rw [List.getElem?_set_self'] at h
      cases e : (bak ρ0 ρ vs)[v]? with
      | none => rw [e] at h; cases h
      | some t =>
        rw [e] at h
        refine .inl ⟨List.mem_cons_self, ?_⟩
        cases e0 : ρ0[v]? with
        | none => rw [e0] at h; cases h; exact .inl rfl
        | some u =>
          rw [e0] at h
          cases u with
          | pu d => cases h; exact .inr ⟨d, rfl, rfl⟩
          | no => cases h; exact .inl rfl
          | ow l ds => cases h; exact .inl rfl
          | ob C ks ds => cases h; exact .inl rfl
    · rw [List.getElem?_set_ne q] at h
      rcases bak_some h with ⟨z, y⟩ | ⟨z1, z2⟩
      · exact .inl ⟨List.mem_cons_of_mem _ z, y⟩
      · exact .inr ⟨z1, by simp only [List.mem_cons, not_or]; exact ⟨fun e => q e.symm, z2⟩⟩
section
variable {K : PySem.W.Frag} {ρ ρ0 : List Sl} {σ : L2.St} {na : Option Addr} {F0 H0 F H : Hp} {D : Addr}
theorem Env1.wip (e : Env1 K ρ σ na H0 F H) (vs : List Nat) : Env1 K (wip ρ vs) (wipe σ vs) na H0 F H := by
  have un : ∀ {j : Nat} {s : Sl}, (Sf.wip ρ vs)[j]? = some s → s ≠ .no → ρ[j]? = some s ∧ (wipe σ vs)[j]? = σ[j]? := fun {j s} h n => by
    rcases wip_some h with z | ⟨z1, z2⟩
    · exact absurd z n
    · exact ⟨z1, wipe_out z2⟩
  refine ⟨fun i d h => ?_, fun i l ds h => ?_, fun i C ks ds h => ?_, fun i j l m ds es a h1 h2 h3 h4 => ?_, fun i j C D ks ls ds es h1 h2 => e.ao i j C D ks ls ds es (un h1 fun z => nomatch z).1 (un h2 fun z => nomatch z).1, by rw [wip_length, wipe_length, e.ln]⟩
  · obtain ⟨h1, h2⟩ := un h fun z => nomatch z
    rw [h2]; exact e.pu i d h1
  · obtain ⟨h1, h2⟩ := un h fun z => nomatch z
    rw [h2]; exact e.ow i l ds h1
  · obtain ⟨h1, h2⟩ := un h fun z => nomatch z
    rw [h2]; exact e.ob i C ks ds h1
  · obtain ⟨g1, g2⟩ := un h1 fun z => nomatch z
    obtain ⟨k1, k2⟩ := un h2 fun z => nomatch z
    rw [g2] at h3
    rw [k2] at h4
    exact e.ap i j l m ds es a g1 k1 h3 h4
/-- the outer slots again: e0 as they were, e as the block left them -/
theorem Env1.bak {F1 H1 : Hp} {vs : List Nat} (e0 : Env1 K ρ0 σ na H0 F1 H1) (ff : Ex F1 F) (e : Env1 K ρ (wipe σ vs) na H0 F H) : Env1 K (bak ρ0 ρ vs) σ na H0 F H := by
  have un : ∀ {j : Nat} {s : Sl}, (Sf.bak ρ0 ρ vs)[j]? = some s → (∀ d, s ≠ .pu d) → s ≠ .no → ρ[j]? = some s ∧ (wipe σ vs)[j]? = σ[j]? := fun {j s} h n n2 => by
    rcases bak_some h with ⟨_, z | ⟨d, z, _⟩⟩ | ⟨z1, z2⟩
    · exact absurd z n2
    · exact absurd z (n d)
    · exact ⟨z1, wipe_out z2⟩
  refine ⟨fun i d h => ?_, fun i l ds h => ?_, fun i C ks ds h => ?_, fun i j l m ds es a h1 h2 h3 h4 => ?_, fun i j C D ks ls ds es h1 h2 => e.ao i j C D ks ls ds es (un h1 (fun _ z => nomatch z) fun z => nomatch z).1 (un h2 (fun _ z => nomatch z) fun z => nomatch z).1, by rw [bak_length, e.ln, wipe_length]⟩
  · rcases bak_some h with ⟨_, z | ⟨d', z, z2⟩⟩ | ⟨z1, z2⟩
    · cases z
    · cases z
      obtain ⟨v, y1, y2⟩ := e0.pu i d z2
      exact ⟨v, y1, y2.mono ff⟩
    · have y := e.pu i d z1
      rw [wipe_out z2] at y
      exact y
  · obtain ⟨h1, h2⟩ := un h (fun _ z => nomatch z) fun z => nomatch z
    rw [← h2]; exact e.ow i l ds h1
  · obtain ⟨h1, h2⟩ := un h (fun _ z => nomatch z) fun z => nomatch z
    rw [← h2]; exact e.ob i C ks ds h1
  · obtain ⟨g1, g2⟩ := un h1 (fun _ z => nomatch z) fun z => nomatch z
    obtain ⟨k1, k2⟩ := un h2 (fun _ z => nomatch z) fun z => nomatch z
    rw [← g2] at h3
    rw [← k2] at h4
    exact e.ap i j l m ds es a g1 k1 h3 h4
/-- no own list of the slots stands at D -/
def NotAt (ρ : List Sl) (σ : L2.St) (D : Addr) : Prop := ∀ (i : Nat) (l : Bool) (ds : List Dat), ρ[i]? = some (.ow l ds) → σ[i]? ≠ some (some (.ref D))
theorem Env1.inD {o : HO} (e : Env1 K ρ σ na H0 F H) (n : NotAt ρ σ D) : Env1 K ρ σ na (upd H0 D o) F H :=
  ⟨e.pu, fun i l ds h => by
    obtain ⟨a, vs, h1, h2, h3, h4, h5, h6⟩ := e.ow i l ds h
    refine ⟨a, vs, h1, h2, h3, h4, h5, fun z => ?_⟩
    rw [upd_ne (fun q => n i l ds h (by rw [h1, q]))]
    exact h6 z, e.ob, e.ap, e.ao, e.ln⟩
theorem Env1.notAt {o : HO} (e : Env1 K ρ σ na (upd H0 D o) F H) (hn : na ≠ some D) : NotAt ρ σ D := fun i l ds h z => by
  obtain ⟨a, vs, h1, h2, h3, h4, h5, h6⟩ := e.ow i l ds h
  rw [h1] at z
  cases z
  cases l with
  | true => exact hn (h5 rfl)
  | false => have := h6 rfl; rw [upd_same] at this; cases this
theorem Env1.outD {o u : HO} (e : Env1 K ρ σ na (upd H0 D o) F H) (hn : na ≠ some D) : Env1 K ρ σ na H0 F (upd H D u) := by
  have n := e.notAt hn
  refine ⟨e.pu, fun i l ds h => ?_, fun i C ks ds h => ?_, e.ap, e.ao, e.ln⟩
  · obtain ⟨a, vs, h1, h2, h3, h4, h5, h6⟩ := e.ow i l ds h
    have q : a ≠ D := fun q => n i l ds h (by rw [h1, q])
    refine ⟨a, vs, h1, h2, by rw [upd_ne q]; exact h3, h4, h5, fun z => ?_⟩
    have := h6 z
    rw [upd_ne q] at this
    exact this
  · obtain ⟨a, dx, vs, h1, h2, h3, h4, h5, h6⟩ := e.ob i C ks ds h
    exact ⟨a, dx, vs, h1, h2, h3, by rw [upd_ne (fun q => hn (by rw [h2, q]))]; exact h4, h5, h6⟩
theorem Cur.inD {us : List V} (c : Cur na F0 H0 F H) (hD : H D = some (.lst us)) : Cur na F (upd H0 D (.lst us)) F H :=
  ⟨.refl _, fun a o n h => by
    by_cases q : a = D
    · subst q; rw [upd_same] at h; cases h; exact hD
    · rw [upd_ne q] at h; exact c.hh a o n h, c.fh, fun _ _ _ h => h, c.lv, fun a h => by
    obtain ⟨o, ho⟩ := c.nz a h
    by_cases q : a = D
    · subst q; exact ⟨_, upd_same⟩
    · exact ⟨o, by rw [upd_ne q]; exact ho⟩⟩
theorem Cur.outD {F' H' : Hp} {o u : HO} (c : Cur na F0 H0 F H) (c' : Cur na F (upd H0 D o) F' H') (h0 : H0 D = none) (fD : F D = none) (hn : na ≠ some D) : Cur na F0 H0 F' (upd H' D u) := by
  have f' : F' D = none := c'.pr D o upd_same fD
  refine ⟨c.ff.trans c'.ff, fun a v n h => ?_, fun a v h => ?_, fun a v h1 h2 => ?_, fun a h => ?_, c.nz⟩
  · have q : a ≠ D := fun q => by rw [q, h0] at h; cases h
    rw [upd_ne q]
    exact c'.hh a v n (by rw [upd_ne q]; exact h)
  · rw [upd_ne (ne_of_none h f')]; exact c'.fh a v h
  · have q : a ≠ D := fun q => by rw [q, h0] at h1; cases h1
    exact c'.pr a v (by rw [upd_ne q]; exact h1) (c.pr a v h1 h2)
  · obtain ⟨⟨v, hv⟩, hf⟩ := c'.lv a h
    have q : a ≠ D := fun q => hn (by rw [h, q])
    exact ⟨⟨v, by rw [upd_ne q]; exact hv⟩, hf⟩
end
theorem wipe_in {σ : L2.St} {j : Nat} : ∀ {vs : List Nat}, j ∈ vs → (wipe σ vs)[j]? = (σ[j]?).map fun _ => none
  | v :: vs, h => by
    unfold wipe
    by_cases q : v = j
    · subst q
      rw [List.getElem?_set_self']
      by_cases hv : v ∈ vs
      · rw [wipe_in hv]; cases σ[v]? <;> rfl
      · rw [wipe_out hv]; cases σ[v]? <;> rfl
    · rw [List.getElem?_set_ne q]
      exact wipe_in ((List.mem_cons.mp h).resolve_left fun z => q z.symm)
theorem wipe_set {σ : L2.St} {i : Nat} {x : Option V} {vs : List Nat} (h : i ∈ vs) (τ : L2.St) (hτ : wipe τ vs = wipe σ vs) : wipe (τ.set i x) vs = wipe σ vs := by
  rw [← hτ]
  refine List.ext_getElem? fun j => ?_
  by_cases hj : j ∈ vs
  · rw [wipe_in hj, wipe_in hj]
    by_cases q : i = j
    · subst q
      rw [List.getElem?_set_self']
      cases τ[i]? <;> rfl
    · rw [List.getElem?_set_ne q]
  · rw [wipe_out hj, wipe_out hj]
    have q : i ≠ j := fun z => hj (z ▸ h)
    rw [List.getElem?_set_ne q]
theorem wipe_wipe {σ : L2.St} {vs : List Nat} : wipe (wipe σ vs) vs = wipe σ vs := by
  refine List.ext_getElem? fun j => ?_
  by_cases hj : j ∈ vs
  · rw [wipe_in hj, wipe_in hj]; cases σ[j]? <;> rfl
  · rw [wipe_out hj]

/-- a target within a block whose own names are at vs -/
structure TgB (K : PySem.W.Frag) (g : TG) (vs : List Nat) (d : Dat) (ρ : List Sl) (Q : List Sl → Prop) : Prop where
  run : ∀ (σ τ : L2.St) (na : Option Addr) (F0 H0 F H : Hp) (v : V) (D : L2.St → Hp → Prop), wipe τ vs = wipe σ vs → Cur na F0 H0 F H → Env1 K ρ τ na H0 F H → Is K d v F → (∀ ρ' σ', wipe σ' vs = wipe σ vs → Env1 K ρ' σ' na H0 F H → Q ρ' → D σ' H) → g v τ H D
theorem tb_name {K : PySem.W.Frag} (i : Nat) {vs : List Nat} {d : Dat} {ρ : List Sl} {Q : List Sl → Prop} (hi : i ∈ vs) (h : Q (ρ.set i (.pu d))) : TgB K (gName i) vs d ρ Q :=
  ⟨fun σ τ na F0 H0 F H v D e c n hd q => q _ _ (wipe_set hi τ e) (n.set hd) h⟩
theorem gnb_run {vs : List Nat} {is : List Nat} {ds : List Dat} {ρ : List Sl} {Q : List Sl → Prop} (h : TgNs is ds ρ Q) (hi : ∀ i ∈ is, i ∈ vs) : ∀ {K : PySem.W.Frag} {ws : List V} {σ τ : L2.St} {na : Option Addr} {F0 H0 F H : Hp} {D : L2.St → Hp → Prop}, wipe τ vs = wipe σ vs → Cur na F0 H0 F H → Env1 K ρ τ na H0 F H → Isl K ds ws F →
    (∀ ρ' σ', wipe σ' vs = wipe σ vs → Env1 K ρ' σ' na H0 F H → Q ρ' → D σ' H) → gNs is ws τ H D := by
  induction h with
  | nil h =>
    intro K ws σ τ na F0 H0 F H D e c n hd q
    cases hd
    exact ⟨rfl, q _ _ e n h⟩
  | cons h ih =>
    intro K ws σ τ na F0 H0 F H D e c n hd q
    cases hd with
    | cons h1 h2 => exact ⟨_, _, rfl, ih (fun i z => hi i (List.mem_cons_of_mem _ z)) (wipe_set (hi _ List.mem_cons_self) τ e) c (n.set h1) h2 q⟩
theorem tb_tup {K : PySem.W.Frag} {vs is : List Nat} {ds : List Dat} {ρ : List Sl} {Q : List Sl → Prop} {N : Nat} (hl : ds.length = N) (hi : ∀ i ∈ is, i ∈ vs) (h : TgNs is ds ρ Q) : TgB K (gTup K N (gNs is)) vs (.tup ds) ρ Q :=
  ⟨fun σ τ na F0 H0 F H v D e c n hd q => by
    cases hd with
    | tup ha hs => exact ⟨_, _, rfl, c.fh.sqt ha, by rw [← hs.length, hl], gnb_run h hi e c n hs q⟩⟩

abbrev W0 : WX := fun _ _ _ _ => False
abbrev R0 : RX := fun _ _ => False
theorem takesW {X : Cx} : Takes X W0 := fun u s' ⟨_, _, _, _, _, _, _, _, _, _, _, _, _, _, _, _, w⟩ => w.elim
section
variable {X : Cx} {W : WX} {R : RX} {e a b c o elt tg iter : Expr} {es : List Expr} {st : Stmt} {sts rest body : List Stmt} {ρ : List Sl} {P : PD} {k : Kn} {pos pos' p apos : Pos} {x m : Str} {l : Nat} {dd : List V} {s : DSp} {scope : Scope} {own : List (Str × Nat)} {g : TG}
/-- an item's reading, in whatever block -/
def tUb (X : Cx) (scope : Scope) (elt : Expr) : TE := fun σ H Q => ∃ ρ P na F0 H0 F, (∀ (s : Shared) (H : Hp) (C : Addr) (cl : List (Str × Addr)) (fp : List Addr), WE (X.blk s H scope (compEnvC scope cl C X.env) fp) W0 R0 elt ρ P) ∧ Cur na F0 H0 F H ∧ Env1 X.K ρ σ na H0 F H ∧
  ∀ d v ρ' F' H', Cur na F0 H0 F' H' → Env1 X.K ρ' σ na H0 F' H' → Is X.K d v F' → P d ρ' → Q v H'
theorem pe_Ub (s : Shared) (H : Hp) (C : Addr) (cl : List (Str × Addr)) (fp : List Addr) : PE (X.blk s H scope (compEnvC scope cl C X.env) fp) elt (tUb X scope elt) :=
  ⟨fun pins s σ H Q I ⟨ρ, P, na, F0, H0, F, w, c, n, q⟩ => (w _ _ _ _ _).run pins s σ na F0 H0 F H Q I c n (fun _ _ _ _ _ _ _ z => z.elim) q⟩
/-- the items of a comprehension, one by one: Iv by the turn, what is made so far, and the slots at the turn's start -/
structure LcD (X : Cx) (scope : Scope) (vs : List Nat) (elt : Expr) (g : TG) (ρ0 : List Sl) (ds : List Dat) (P : List Dat → List Sl → Prop) : Prop where
  ex : ∃ Iv : Nat → List Dat → List Sl → Prop, Iv 0 [] (wip ρ0 vs) ∧ (∀ j d' acc ρ, ds[j]? = some d' → Iv j acc ρ → acc.length ≤ j → TgB X.K g vs d' ρ fun ρ2 =>
    ∀ (s : Shared) (H : Hp) (C : Addr) (cl : List (Str × Addr)) (fp : List Addr), WE (X.blk s H scope (compEnvC scope cl C X.env) fp) W0 R0 elt ρ2 fun y ρ3 => Iv (j + 1) (acc ++ [y]) (wip ρ3 vs)) ∧ ∀ acc ρ, Iv ds.length acc ρ → P acc (bak ρ0 ρ vs)
  le : ds.length ≤ 100000
structure LcP (K : PySem.W.Frag) (σ : L2.St) (vs : List Nat) (na : Option Addr) (F0 H0 F1 : Hp) (D : Addr) (Iv : Nat → List Dat → List Sl → Prop) (j : Nat) (H : Hp) : Prop where
  ex : ∃ F acc us ρ, Cur na F0 H0 F H ∧ Env1 K ρ (wipe σ vs) na H0 F H ∧ Ex F1 F ∧ F D = none ∧ H D = some (.lst us) ∧ Isl K acc us F ∧ acc.length ≤ j ∧ Iv j acc ρ ∧ NotAt ρ (wipe σ vs) D
/-- D is fresh -/
structure Fr0 (na : Option Addr) (H0 H1 : Hp) (D : Addr) : Prop where
  h1 : H1 D = none
  h0 : H0 D = none
  nn : na ≠ some D
theorem fr0 {na : Option Addr} {F0 H0 F1 H1 : Hp} {D : Addr} (c : Cur na F0 H0 F1 H1) (hD : H1 D = none) : Fr0 na H0 H1 D := by
  have nn : na ≠ some D := fun z => by
    obtain ⟨⟨o, ho⟩, _⟩ := c.lv D z
    rw [hD] at ho; cases ho
  refine ⟨hD, ?_, nn⟩
  cases q : H0 D with
  | none => rfl
  | some u => have := c.hh D u nn q; rw [hD] at this; cases this
theorem lcp_start {K : PySem.W.Frag} {σ : L2.St} {vs : List Nat} {na : Option Addr} {F0 H0 F1 H1 : Hp} {D : Addr} {Iv : Nat → List Dat → List Sl → Prop} {ρ0 : List Sl} (c : Cur na F0 H0 F1 H1) (n : Env1 K ρ0 σ na H0 F1 H1) (hD : H1 D = none) (i0 : Iv 0 [] (wip ρ0 vs)) : LcP K σ vs na F0 H0 F1 D Iv 0 (upd H1 D (.lst [])) := by
  have st := Stp.junk (o := .lst []) c.fh hD
  refine ⟨F1, [], [], _, c.stp st, (n.stp st).wip vs, .refl _, fnone c.fh hD, upd_same, .nil, Nat.le_refl _, i0, fun i l ds h z => ?_⟩
  obtain ⟨a, ws, h1, h2, h3, _⟩ := (n.wip vs).ow i l ds h
  rw [h1] at z
  cases z
  rw [hD] at h3; cases h3
theorem lcp_turn {σ : L2.St} {na : Option Addr} {F0 H0 F1 H1 H : Hp} {D : Addr} {Iv : Nat → List Dat → List Sl → Prop} {j : Nat} {d' : Dat} {x : V} {vs : List Nat} (hj : j < 100000) (fr : Fr0 na H0 H1 D) (hx : Is X.K d' x F1)
    (hE : ∀ acc ρ, Iv j acc ρ → acc.length ≤ j → TgB X.K g vs d' ρ fun ρ2 => ∀ (s : Shared) (H : Hp) (C : Addr) (cl : List (Str × Addr)) (fp : List Addr), WE (X.blk s H scope (compEnvC scope cl C X.env) fp) W0 R0 elt ρ2 fun y ρ3 => Iv (j + 1) (acc ++ [y]) (wip ρ3 vs))
    (p : LcP X.K σ vs na F0 H0 F1 D Iv j H) : g x (wipe σ vs) H fun σ2 H2 => wipe σ2 vs = wipe σ vs ∧ tYes σ2 H2 fun b H3 =>
      if b = true then tUb X scope elt σ2 H3 fun y H4 => ∃ acc, H4 D = some (.lst acc) ∧ acc.length < sizeLine ∧ LcP X.K σ vs na F0 H0 F1 D Iv (j + 1) (upd H4 D (.lst (acc ++ [y]))) else LcP X.K σ vs na F0 H0 F1 D Iv (j + 1) H3 := by
  obtain ⟨F, acc, us, ρ, c, n, ff, fD, hD, hi, hl, iv, nD⟩ := p.ex
  have c0 := c.inD hD
  refine (hE acc ρ iv hl).run σ (wipe σ vs) na F (upd H0 D (.lst us)) F H x _ wipe_wipe c0 (n.inD nD) (hx.mono ff) fun ρ2 σ2 e2 n2 w2 => ⟨e2, ?_⟩
  have pos_ : ∀ {A B : Prop}, A → (if true = true then A else B) := fun h => by rw [if_pos rfl]; exact h
  unfold tYes
  refine pos_ ?_
  refine ⟨ρ2, _, na, F, upd H0 D (.lst us), F, w2, c0, n2, fun y v ρ3 F' H' c' n' hd iv' => ?_⟩
  have hD' : H' D = some (.lst us) := c'.hh D _ fr.nn upd_same
  have hf : F' D = none := c'.pr D _ upd_same fD
  refine ⟨us, hD', ?_, F', acc ++ [y], us ++ [v], wip ρ3 vs, c.outD c' fr.h0 fD fr.nn, ?_, ff.trans c'.ff, hf, upd_same, (hi.mono c'.ff).append (.cons hd .nil), by rw [List.length_append, List.length_singleton]; omega, iv', ?_⟩
  · rw [← hi.length]; exact Nat.lt_of_le_of_lt hl (Nat.lt_trans hj (by decide))
  · have := (n'.wip vs).outD (u := .lst (us ++ [v])) fr.nn
    rw [e2] at this
    exact this
  · have := (n'.wip vs).notAt fr.nn
    rw [e2] at this
    exact this
theorem lcp_end {K : PySem.W.Frag} {ρ0 : List Sl} {σ : L2.St} {vs : List Nat} {na : Option Addr} {F0 H0 F1 H1 H : Hp} {D : Addr} {Iv : Nat → List Dat → List Sl → Prop} {j : Nat} {PL : List Dat → List Sl → Prop} (fr : Fr0 na H0 H1 D) (n1 : Env1 K ρ0 σ na H0 F1 H1) (p : LcP K σ vs na F0 H0 F1 D Iv j H) (hf : ∀ acc ρ, Iv j acc ρ → PL acc (bak ρ0 ρ vs)) :
    ∃ acc F ρ, PL acc ρ ∧ Cur na F0 H0 F H ∧ Env1 K ρ σ na H0 F H ∧ Is K (.lst acc) (.ref D) F := by
  obtain ⟨F, acc, us, ρ, c, n, ff, fD, hD, hi, hl, iv, nD⟩ := p.ex
  have fx : Ex F (upd F D (.lst us)) := fun q o hq => by rw [upd_ne (ne_of_none hq fD)]; exact hq
  refine ⟨acc, upd F D (.lst us), bak ρ0 ρ vs, hf _ _ iv, ⟨c.ff.trans fx, c.hh, fun q o hq => ?_, fun q o h1 h2 => ?_, fun q hq => ?_, c.nz⟩, ?_, .lst (.inl (.inl upd_same)) (hi.mono fx)⟩
  · by_cases z : q = D
    · subst z; rw [upd_same] at hq; cases hq; exact hD
    · rw [upd_ne z] at hq; exact c.fh _ _ hq
  · rw [upd_ne (ne_of_none h1 fr.h0)]; exact c.pr q o h1 h2
  · obtain ⟨h1, h2⟩ := c.lv q hq
    exact ⟨h1, by rw [upd_ne (fun z => fr.nn (by rw [← z]; exact hq))]; exact h2⟩
  · refine Env1.bak n1 (ff.trans fx) ⟨fun i d h => ?_, fun i l ds h => ?_, fun i C ks ds h => ?_, n.ap, n.ao, n.ln⟩
    · obtain ⟨v, h1, h2⟩ := n.pu i d h
      exact ⟨v, h1, h2.mono fx⟩
    · obtain ⟨a, ws, h1, h2, h3, h4, h5⟩ := n.ow i l ds h
      exact ⟨a, ws, h1, by rw [upd_ne (fun z => nD i l ds h (by rw [h1, z]))]; exact h2, h3, h4.mono fx, h5⟩
    · obtain ⟨a, dx, ws, h1, h2, h3, h4, h5, h6⟩ := n.ob i C ks ds h
      exact ⟨a, dx, ws, h1, h2, by rw [upd_ne (fun z => fr.nn (by rw [← z]; exact h2))]; exact h3, h4, h5, h6.mono fx⟩
/-- how a comprehension ends -/
def EndQ (K : PySem.W.Frag) (σ : L2.St) (vs : List Nat) (na : Option Addr) (F0 H0 : Hp) (PL : List Dat → List Sl → Prop) (Q : VK) : Prop := ∀ (ρ0 : List Sl) (F1 H1 : Hp) (D : Addr) (Iv : Nat → List Dat → List Sl → Prop) (j : Nat) (H' : Hp),
  Fr0 na H0 H1 D → Env1 K ρ0 σ na H0 F1 H1 → LcP K σ vs na F0 H0 F1 D Iv j H' → (∀ acc ρ, Iv j acc ρ → PL acc (bak ρ0 ρ vs)) → Q (.ref D) H'
theorem endP {K : PySem.W.Frag} {σ : L2.St} {vs : List Nat} {na : Option Addr} {F0 H0 : Hp} {Q : VK} (q : ∀ d v ρ' F' H', Cur na F0 H0 F' H' → Env1 K ρ' σ na H0 F' H' → Is K d v F' → P d ρ' → Q v H') : EndQ K σ vs na F0 H0 (fun acc ρ' => P (.lst acc) ρ') Q :=
  fun ρ0 F1 H1 D Iv j H' fr n1 p fin => by
    obtain ⟨acc, F', ρ', hp, c2, n2, hd2⟩ := lcp_end fr n1 p fin
    exact q _ _ ρ' F' H' c2 n2 hd2 hp
/-- .. as a list that is the def's own -/
theorem endO {K : PySem.W.Frag} {σ : L2.St} {vs : List Nat} {na : Option Addr} {F0 H0 : Hp} {PL : List Dat → List Sl → Prop} {Q : VK} (q : ∀ acc us a ρ' F' H', Cur na F0 H0 F' H' → Env1 K ρ' σ na H0 F' H' → F' a = none → H' a = some (.lst us) → H0 a = none → NotAt ρ' σ a → Isl K acc us F' → PL acc ρ' → Q (.ref a) H') : EndQ K σ vs na F0 H0 PL Q :=
  fun ρ0 F1 H1 D Iv j H' fr n1 p fin => by
    obtain ⟨F, acc, us, ρ, c, n, ff, fD, hD, hi, hl, iv, nD⟩ := p.ex
    refine q acc us D (bak ρ0 ρ vs) F H' c (Env1.bak n1 ff n) fD hD fr.h0 (fun i l ds h => ?_) hi (fin acc ρ iv)
    rcases bak_some h with ⟨_, z | ⟨d, z, _⟩⟩ | ⟨z1, z2⟩
    · cases z
    · cases z
    · have := nD i l ds z1
      rw [wipe_out z2] at this
      exact this
/-- [elt for tg in xs], xs a list or a tuple that stands still -/
theorem lc_readL {σ : L2.St} {na : Option Addr} {F0 H0 F H : Hp} {Q : VK} {PL : List Dat → List Sl → Prop} {vs : List Nat} (c : Cur na F0 H0 F H) (n : Env1 X.K ρ σ na H0 F H) (xo : ExcOk X.K W R na F0 H0)
    (h : WE X W R iter ρ fun d ρ0 => ∃ ds, d = .lst ds ∧ LcD X scope vs elt g ρ0 ds PL)
    (q : EndQ X.K σ vs na F0 H0 PL Q) : tLc (iList X.K (tU X W iter)) g tYes (tUb X scope elt) vs σ H Q :=
  ⟨ρ, _, R, na, F0, H0, F, h, c, n, xo, fun d v ρ0 F1 H1 c1 n1 hd ⟨ds, e, L⟩ => by
    subst e
    obtain ⟨Iv, i0, ie, fin⟩ := L.ex
    cases hd with
    | lst ha hs =>
    rename_i a0 ws
    refine ⟨a0, rfl, ⟨ws, c1.fh.sql ha⟩, fun D hD => ?_⟩
    have fr := fr0 c1 hD
    refine lc_list (xs := ws) (Qd := fun H' => Q (.ref D) H') (LcP X.K σ vs na F0 H0 F1 D Iv) (lcp_start c1 n1 hD i0) (fun i H' _ p => ?_) (fun i x H' hx p => ?_) (fun H' p => ?_)
    · obtain ⟨F', acc, us, ρ', c', _, ff, _⟩ := p.ex
      exact c'.fh.sql (ff.sql ha)
    · obtain ⟨d', e1, e2⟩ := hs.get' hx
      have hlt : i < ds.length := (List.getElem?_eq_some_iff.mp e1).1
      exact lcp_turn (Nat.lt_of_lt_of_le hlt L.le) fr e2 (fun acc ρ' iv hl => ie i d' acc ρ' e1 iv hl) p
    · rw [← hs.length] at p
      exact q ρ0 F1 H1 D Iv _ H' fr n1 p fin⟩
theorem lc_readT {σ : L2.St} {na : Option Addr} {F0 H0 F H : Hp} {Q : VK} {PL : List Dat → List Sl → Prop} {vs : List Nat} (c : Cur na F0 H0 F H) (n : Env1 X.K ρ σ na H0 F H) (xo : ExcOk X.K W R na F0 H0)
    (h : WE X W R iter ρ fun d ρ0 => ∃ ds, d = .tup ds ∧ LcD X scope vs elt g ρ0 ds PL)
    (q : EndQ X.K σ vs na F0 H0 PL Q) : tLc (iTup X.K (tU X W iter)) g tYes (tUb X scope elt) vs σ H Q :=
  ⟨ρ, _, R, na, F0, H0, F, h, c, n, xo, fun d v ρ0 F1 H1 c1 n1 hd ⟨ds, e, L⟩ => by
    subst e
    obtain ⟨Iv, i0, ie, fin⟩ := L.ex
    cases hd with
    | tup ha hs =>
    rename_i a0 ws
    refine ⟨a0, rfl, ⟨ws, c1.fh.sqt ha⟩, fun D hD => ?_⟩
    have fr := fr0 c1 hD
    refine lc_tup (xs := ws) (Qd := fun H' => Q (.ref D) H') (LcP X.K σ vs na F0 H0 F1 D Iv) (lcp_start c1 n1 hD i0) (fun i H' _ p => ?_) (fun i x H' hx p => ?_) (fun H' p => ?_)
    · obtain ⟨F', acc, us, ρ', c', _, ff, _⟩ := p.ex
      exact c'.fh.sqt (ff.sqt ha)
    · obtain ⟨d', e1, e2⟩ := hs.get' hx
      have hlt : i < ds.length := (List.getElem?_eq_some_iff.mp e1).1
      exact lcp_turn (Nat.lt_of_lt_of_le hlt L.le) fr e2 (fun acc ρ' iv hl => ie i d' acc ρ' e1 iv hl) p
    · rw [← hs.length] at p
      exact q ρ0 F1 H1 D Iv _ H' fr n1 p fin⟩
/-- range(n) as data -/
def rngD (n : Nat) : List Dat := (List.range n).map fun i : Nat => dI (i : Int)
theorem rngD_get {n i : Nat} (h : i < n) : (rngD n)[i]? = some (dI (i : Int)) := by unfold rngD; rw [List.getElem?_map, List.getElem?_range h]; rfl
theorem rngD_length (n : Nat) : (rngD n).length = n := by unfold rngD; rw [List.length_map, List.length_range]
theorem lc_readR {σ : L2.St} {na : Option Addr} {F0 H0 F H : Hp} {Q : VK} {PL : List Dat → List Sl → Prop} {vs : List Nat} (c : Cur na F0 H0 F H) (n : Env1 X.K ρ σ na H0 F H) (xo : ExcOk X.K W R na F0 H0)
    (h : WA X W R [a] ρ fun as ρ0 => ∃ z : Int, as = [dI z] ∧ z ≤ 100000 ∧ -100000 ≤ z ∧ LcD X scope vs elt g ρ0 (rngD z.toNat) PL)
    (q : EndQ X.K σ vs na F0 H0 PL Q) : tLc (iRng1 (tUA X W [a])) g tYes (tUb X scope elt) vs σ H Q :=
  ⟨ρ, _, R, na, F0, H0, F, h, c, n, xo, fun as ws ρ0 F1 H1 c1 n1 hd ⟨z, e, z1, z2, L⟩ => by
    subst e
    obtain ⟨Iv, i0, ie, fin⟩ := L.ex
    have ew : ws = [.int z] := by
      cases hd with
      | cons h1 h2 => cases h2; rw [is_v h1]
    refine ⟨z, ew, by omega, by omega, fun D hD => ?_⟩
    have fr := fr0 c1 hD
    refine lc_range (lo := 0) (n := z.toNat) (Qd := fun H' => Q (.ref D) H') (LcP X.K σ vs na F0 H0 F1 D Iv) (lcp_start c1 n1 hD i0) (fun i H' hi p => ?_) (fun H' p => ?_)
    · have e0 : (0 : Int) + (i : Int) = (i : Int) := Int.zero_add _
      rw [e0]
      exact lcp_turn (F1 := F1) (by omega) fr .v (fun acc ρ' iv hl => ie i _ acc ρ' (rngD_get hi) iv hl) p
    · have e1 := rngD_length z.toNat
      rw [e1] at fin
      exact q ρ0 F1 H1 D Iv _ H' fr n1 p fin⟩
theorem we_lcL (own : List (Str × Nat)) (hN : X.N.Nodup) (hc : X.calm = true) (ok : BlkOk X.N X.env.scope scope own) (hg : ∀ (s : Shared) (H : Hp) (C : Addr) (cl : List (Str × Addr)) (fp : List Addr), PG (X.blk s H scope (compEnvC scope cl C X.env) fp) tg g)
    (h : WE X W R iter ρ fun d ρ0 => ∃ ds, d = .lst ds ∧ LcD X scope (own.map (·.2)) elt g ρ0 ds fun acc ρ' => P (.lst acc) ρ') (hs : ∀ x, foldedSetIterable iter X.env x = pure x := by intro _; rfl) : WE X W R (.ListComp elt [⟨tg, iter, [], 0⟩] scope pos) ρ P :=
  .of (pe_lc hc hN (pi_list (pe_U (W := W))) ok hg (fun _ _ _ _ _ => pts_nil) pe_Ub hs) fun σ na F0 H0 F H Q c n x q => lc_readL c n x h (endP q)
theorem we_lcT (own : List (Str × Nat)) (hN : X.N.Nodup) (hc : X.calm = true) (ok : BlkOk X.N X.env.scope scope own) (hg : ∀ (s : Shared) (H : Hp) (C : Addr) (cl : List (Str × Addr)) (fp : List Addr), PG (X.blk s H scope (compEnvC scope cl C X.env) fp) tg g)
    (h : WE X W R iter ρ fun d ρ0 => ∃ ds, d = .tup ds ∧ LcD X scope (own.map (·.2)) elt g ρ0 ds fun acc ρ' => P (.lst acc) ρ') (hs : ∀ x, foldedSetIterable iter X.env x = pure x := by intro _; rfl) : WE X W R (.ListComp elt [⟨tg, iter, [], 0⟩] scope pos) ρ P :=
  .of (pe_lc hc hN (pi_tup (pe_U (W := W))) ok hg (fun _ _ _ _ _ => pts_nil) pe_Ub hs) fun σ na F0 H0 F H Q c n x q => lc_readT c n x h (endP q)
theorem we_lcR (own : List (Str × Nat)) {rp : Pos} (hN : X.N.Nodup) (hc : X.calm = true) (hm : X.mg "range" = none) (ok : BlkOk X.N X.env.scope scope own) (hg : ∀ (s : Shared) (H : Hp) (C : Addr) (cl : List (Str × Addr)) (fp : List Addr), PG (X.blk s H scope (compEnvC scope cl C X.env) fp) tg g)
    (h : WA X W R [a] ρ fun as ρ0 => ∃ z : Int, as = [dI z] ∧ z ≤ 100000 ∧ -100000 ≤ z ∧ LcD X scope (own.map (·.2)) elt g ρ0 (rngD z.toNat) fun acc ρ' => P (.lst acc) ρ') (hgl : Gl X "range" := by rfl) (hst : starEach [a] X.env = [(false, eval a X.env)] := by rfl)
    (hs : ∀ x, foldedSetIterable (.Call (.Name "range" rp) [a] [] pos') X.env x = pure x := by intro _; rfl) : WE X W R (.ListComp elt [⟨tg, .Call (.Name "range" rp) [a] [] pos', [], 0⟩] scope pos) ρ P :=
  .of (pe_lc hc hN (pi_range1 hgl hm (pa_U (W := W)) hst) ok hg (fun _ _ _ _ _ => pts_nil) pe_Ub hs) fun σ na F0 H0 F H Q c n x q => lc_readR c n x h (endP q)
/-- what follows name = [..]: the list as a datum, or as a list of the def's own -/
theorem end_set {K : PySem.W.Frag} {i : Nat} {σ : L2.St} {vs : List Nat} {na : Option Addr} {F0 H0 : Hp} {D : Ends} (q : KnOk K na F0 H0 k D) : EndQ K σ vs na F0 H0 (fun acc ρ' => k.nx (ρ'.set i (.pu (.lst acc)))) (fun x H1 => gName i x σ H1 D.nx) :=
  endP (P := fun d ρ' => k.nx (ρ'.set i (.pu d))) fun d v ρ' F' H' c' n' hd p => q.nx _ _ F' H' c' (n'.set hd) p
theorem end_setO {K : PySem.W.Frag} {i : Nat} {σ : L2.St} {vs : List Nat} {na : Option Addr} {F0 H0 : Hp} {D : Ends} (q : KnOk K na F0 H0 k D) : EndQ K σ vs na F0 H0 (fun acc ρ' => k.nx (ρ'.set i (.ow false acc))) (fun x H1 => gName i x σ H1 D.nx) :=
  endO fun acc us a ρ' F' H' c' n' f1 h1 h0 nd hd p => q.nx _ _ F' H' c' (n'.setO f1 h1 hd h0 fun j l' ds' b hj hb z => nd j l' ds' hj (by rw [hb, z])) p
theorem ws_lcL (i : Nat) {y : Str} {py spos : Pos} (own : List (Str × Nat)) (hN : X.N.Nodup) (hc : X.calm = true) (ok : BlkOk X.N X.env.scope scope own) (hg : ∀ (s : Shared) (H : Hp) (C : Addr) (cl : List (Str × Addr)) (fp : List Addr), PG (X.blk s H scope (compEnvC scope cl C X.env) fp) tg g)
    (h : WE X W R iter ρ fun d ρ0 => ∃ ds, d = .lst ds ∧ LcD X scope (own.map (·.2)) elt g ρ0 ds fun acc ρ' => k.nx (ρ'.set i (.pu (.lst acc)))) (hsw : swapsWith (.ListComp elt [⟨tg, iter, [], 0⟩] scope pos) (some (.Name y py)) spos.line X.env = pure true)
    (hy : X.N[i]? = some y := by rfl) (hyl : X.env.scope.names.lookup y = some .local := by rfl) (hs : ∀ x, foldedSetIterable iter X.env x = pure x := by intro _; rfl) : WS X W R (.Assign [.Name y py] (.ListComp elt [⟨tg, iter, [], 0⟩] scope pos) spos) ρ k :=
  .of (ps_setLc hc hN hy hyl hsw (pi_list (pe_U (W := W))) ok hg (fun _ _ _ _ _ => pts_nil) pe_Ub hs) fun σ na F0 H0 F H D c n x q => lc_readL c n x h (end_set q)
theorem ws_lcLO (i : Nat) {y : Str} {py spos : Pos} (own : List (Str × Nat)) (hN : X.N.Nodup) (hc : X.calm = true) (ok : BlkOk X.N X.env.scope scope own) (hg : ∀ (s : Shared) (H : Hp) (C : Addr) (cl : List (Str × Addr)) (fp : List Addr), PG (X.blk s H scope (compEnvC scope cl C X.env) fp) tg g)
    (h : WE X W R iter ρ fun d ρ0 => ∃ ds, d = .lst ds ∧ LcD X scope (own.map (·.2)) elt g ρ0 ds fun acc ρ' => k.nx (ρ'.set i (.ow false acc))) (hsw : swapsWith (.ListComp elt [⟨tg, iter, [], 0⟩] scope pos) (some (.Name y py)) spos.line X.env = pure true)
    (hy : X.N[i]? = some y := by rfl) (hyl : X.env.scope.names.lookup y = some .local := by rfl) (hs : ∀ x, foldedSetIterable iter X.env x = pure x := by intro _; rfl) : WS X W R (.Assign [.Name y py] (.ListComp elt [⟨tg, iter, [], 0⟩] scope pos) spos) ρ k :=
  .of (ps_setLc hc hN hy hyl hsw (pi_list (pe_U (W := W))) ok hg (fun _ _ _ _ _ => pts_nil) pe_Ub hs) fun σ na F0 H0 F H D c n x q => lc_readL c n x h (end_setO q)
theorem ws_lcT (i : Nat) {y : Str} {py spos : Pos} (own : List (Str × Nat)) (hN : X.N.Nodup) (hc : X.calm = true) (ok : BlkOk X.N X.env.scope scope own) (hg : ∀ (s : Shared) (H : Hp) (C : Addr) (cl : List (Str × Addr)) (fp : List Addr), PG (X.blk s H scope (compEnvC scope cl C X.env) fp) tg g)
    (h : WE X W R iter ρ fun d ρ0 => ∃ ds, d = .tup ds ∧ LcD X scope (own.map (·.2)) elt g ρ0 ds fun acc ρ' => k.nx (ρ'.set i (.pu (.lst acc)))) (hsw : swapsWith (.ListComp elt [⟨tg, iter, [], 0⟩] scope pos) (some (.Name y py)) spos.line X.env = pure true)
    (hy : X.N[i]? = some y := by rfl) (hyl : X.env.scope.names.lookup y = some .local := by rfl) (hs : ∀ x, foldedSetIterable iter X.env x = pure x := by intro _; rfl) : WS X W R (.Assign [.Name y py] (.ListComp elt [⟨tg, iter, [], 0⟩] scope pos) spos) ρ k :=
  .of (ps_setLc hc hN hy hyl hsw (pi_tup (pe_U (W := W))) ok hg (fun _ _ _ _ _ => pts_nil) pe_Ub hs) fun σ na F0 H0 F H D c n x q => lc_readT c n x h (end_set q)
theorem ws_lcTO (i : Nat) {y : Str} {py spos : Pos} (own : List (Str × Nat)) (hN : X.N.Nodup) (hc : X.calm = true) (ok : BlkOk X.N X.env.scope scope own) (hg : ∀ (s : Shared) (H : Hp) (C : Addr) (cl : List (Str × Addr)) (fp : List Addr), PG (X.blk s H scope (compEnvC scope cl C X.env) fp) tg g)
    (h : WE X W R iter ρ fun d ρ0 => ∃ ds, d = .tup ds ∧ LcD X scope (own.map (·.2)) elt g ρ0 ds fun acc ρ' => k.nx (ρ'.set i (.ow false acc))) (hsw : swapsWith (.ListComp elt [⟨tg, iter, [], 0⟩] scope pos) (some (.Name y py)) spos.line X.env = pure true)
    (hy : X.N[i]? = some y := by rfl) (hyl : X.env.scope.names.lookup y = some .local := by rfl) (hs : ∀ x, foldedSetIterable iter X.env x = pure x := by intro _; rfl) : WS X W R (.Assign [.Name y py] (.ListComp elt [⟨tg, iter, [], 0⟩] scope pos) spos) ρ k :=
  .of (ps_setLc hc hN hy hyl hsw (pi_tup (pe_U (W := W))) ok hg (fun _ _ _ _ _ => pts_nil) pe_Ub hs) fun σ na F0 H0 F H D c n x q => lc_readT c n x h (end_setO q)
theorem ws_lcR (i : Nat) {y : Str} {py spos rp : Pos} (own : List (Str × Nat)) (hN : X.N.Nodup) (hc : X.calm = true) (hm : X.mg "range" = none) (ok : BlkOk X.N X.env.scope scope own) (hg : ∀ (s : Shared) (H : Hp) (C : Addr) (cl : List (Str × Addr)) (fp : List Addr), PG (X.blk s H scope (compEnvC scope cl C X.env) fp) tg g)
    (h : WA X W R [a] ρ fun as ρ0 => ∃ z : Int, as = [dI z] ∧ z ≤ 100000 ∧ -100000 ≤ z ∧ LcD X scope (own.map (·.2)) elt g ρ0 (rngD z.toNat) fun acc ρ' => k.nx (ρ'.set i (.pu (.lst acc)))) (hsw : swapsWith (.ListComp elt [⟨tg, .Call (.Name "range" rp) [a] [] pos', [], 0⟩] scope pos) (some (.Name y py)) spos.line X.env = pure true)
    (hy : X.N[i]? = some y := by rfl) (hyl : X.env.scope.names.lookup y = some .local := by rfl) (hgl : Gl X "range" := by rfl) (hst : starEach [a] X.env = [(false, eval a X.env)] := by rfl) (hs : ∀ x, foldedSetIterable (.Call (.Name "range" rp) [a] [] pos') X.env x = pure x := by intro _; rfl) :
    WS X W R (.Assign [.Name y py] (.ListComp elt [⟨tg, .Call (.Name "range" rp) [a] [] pos', [], 0⟩] scope pos) spos) ρ k :=
  .of (ps_setLc hc hN hy hyl hsw (pi_range1 hgl hm (pa_U (W := W)) hst) ok hg (fun _ _ _ _ _ => pts_nil) pe_Ub hs) fun σ na F0 H0 F H D c n x q => lc_readR c n x h (end_set q)
theorem ws_lcRO (i : Nat) {y : Str} {py spos rp : Pos} (own : List (Str × Nat)) (hN : X.N.Nodup) (hc : X.calm = true) (hm : X.mg "range" = none) (ok : BlkOk X.N X.env.scope scope own) (hg : ∀ (s : Shared) (H : Hp) (C : Addr) (cl : List (Str × Addr)) (fp : List Addr), PG (X.blk s H scope (compEnvC scope cl C X.env) fp) tg g)
    (h : WA X W R [a] ρ fun as ρ0 => ∃ z : Int, as = [dI z] ∧ z ≤ 100000 ∧ -100000 ≤ z ∧ LcD X scope (own.map (·.2)) elt g ρ0 (rngD z.toNat) fun acc ρ' => k.nx (ρ'.set i (.ow false acc))) (hsw : swapsWith (.ListComp elt [⟨tg, .Call (.Name "range" rp) [a] [] pos', [], 0⟩] scope pos) (some (.Name y py)) spos.line X.env = pure true)
    (hy : X.N[i]? = some y := by rfl) (hyl : X.env.scope.names.lookup y = some .local := by rfl) (hgl : Gl X "range" := by rfl) (hst : starEach [a] X.env = [(false, eval a X.env)] := by rfl) (hs : ∀ x, foldedSetIterable (.Call (.Name "range" rp) [a] [] pos') X.env x = pure x := by intro _; rfl) :
    WS X W R (.Assign [.Name y py] (.ListComp elt [⟨tg, .Call (.Name "range" rp) [a] [] pos', [], 0⟩] scope pos) spos) ρ k :=
  .of (ps_setLc hc hN hy hyl hsw (pi_range1 hgl hm (pa_U (W := W)) hst) ok hg (fun _ _ _ _ _ => pts_nil) pe_Ub hs) fun σ na F0 H0 F H D c n x q => lc_readR c n x h (end_setO q)
/-- tuple(list) -/
theorem we_tupL {q : Pos} (hm : X.mg "tuple" = none) (h : WA X W R [a] ρ fun ds ρ' => ∃ es, ds = [.lst es] ∧ P (.tup es) ρ') (hg : Gl X "tuple" := by rfl)
    (he : starEach [a] X.env = (false, eval a X.env) :: starEach [] X.env := by rfl) (hpl : (backTo pos (starEach [] X.env)).any (·.1) = false := by rfl) : WE X W R (.Call (.Name "tuple" q) [a] [] pos) ρ P := by
  refine we_ct call_tuple_of hm (by decide +kernel) ⟨fun pos pins s σ na F0 H0 F H Q I c n x q => h.run pos pins s σ na F0 H0 F H Q I c n x fun ds vs ρ' F' H' c' n' hd p => q ds vs ρ' F' H' c' n' hd ?_⟩ hg (by decide) (by decide) he hpl
  obtain ⟨es, rfl, hp⟩ := p
  intro vs2 F2 H2 Q2 ex hi hq
  cases hi with
  | cons h1 h2 =>
    cases h2
    cases h1 with
    | @lst a0 _ us _ ha hs =>
      refine ⟨_, us, rfl, .inl ⟨ex.sql ha, fun l hl => ?_⟩⟩
      have st := Stp.new (o := .tup us) ex hl
      exact hq (.tup es) _ _ _ st (.tup (.inl (.inl upd_same)) (hs.mono st.ff)) hp
end
end Sf
namespace Sf
open PySem L2
/-! ### grounds -/
def grD (K : PySem.W.Frag) (p : Int) : Dat := .ins (He.ga K "Ground") ["p"] [dI p]
def isG (p : Int) : Prop := p = 0 ∨ isP p = true
theorem not_p0 : isP 0 = false := by decide +kernel
structure GrF (K : PySem.W.Frag) : Prop where
  c : Cls K (He.ga K "Ground")
  p : NoAttr K (He.ga K "Ground") "p"
section
variable {X : Cx} {W : WX} {R : RX} {ρ : List Sl} {P : PD} {pos : Pos} {e : Expr}
theorem we_gp (F : GrF X.K) (h : WE X W R e ρ fun d ρ' => ∃ p, d = grD X.K p ∧ P (dI p) ρ') (hb : attributeBase e "p" X.env (eval e X.env) = eval e X.env := by rfl) : WE X W R (.Attribute e "p" pos) ρ P :=
  we_fld (h.imp fun d ρ' ⟨q, e, p⟩ => ⟨_, _, _, _, e, F.c, F.p, rfl, p⟩) hb
end
/-- what Ground refuses -/
def NoGr (K : PySem.W.Frag) (d : Dat) : Prop := (∃ i, d = dI i ∧ i ≠ 0 ∧ isP i = false) ∨ IntB K d false
def spMkG (K : PySem.W.Frag) : DSp := fun ds P R => ∃ d, ds = [d] ∧ ((∃ p, d = dI p ∧ isG p ∧ P (grD K p)) ∨ NoGr K d ∧ R (He.ga K "Malformed"))
/-- a number of the ground told by p -/
def NumD (K : PySem.W.Frag) (p : Int) (d : Dat) : Prop := (p = 0 ∧ ∃ q, d = ratD K q) ∨ (isP p = true ∧ ∃ n, d = resD K p n ∧ RB p n)
/-- other than a number of the ground told by p -/
def NoNum (K : PySem.W.Frag) (p : Int) (d : Dat) : Prop := (p = 0 ∧ NoI K (He.ga K "Ratio") d) ∨ (isP p = true ∧ BadR K p d)
def spMem (K : PySem.W.Frag) : DSp := fun ds P _ => ∃ p d, ds = [grD K p, d] ∧ (NumD K p d ∧ P (dB true) ∨ NoNum K p d ∧ P (dB false))
/-- the integer n over d, as a number of the ground -/
def spNum (K : PySem.W.Frag) : DSp := fun ds P R => ∃ p n d, ds = [grD K p, dI n, dI d] ∧
  ((p = 0 ∧ (d = 0 → R (He.ga K "ZeroDivisor")) ∧ (d ≠ 0 → n.natAbs < 2 ^ 8900 ∧ d.natAbs < 2 ^ 8900 ∧ (d < 0 → Nat.gcd n.natAbs d.natAbs < 1073741824) ∧ P (ratD K (Rat.divInt n d)))) ∨
   (isP p = true ∧ (d = 1 → P (resD K p (n % p))) ∧ (d ≠ 1 → d % p = 0 → R (He.ga K "ZeroDivisor")) ∧ (d ≠ 1 → d % p ≠ 0 → P (resD K p ((n % p) * ((d % p) ^ (p - 2).toNat % p) % p)))))
/-- an integer as a number of the ground -/
def intN (K : PySem.W.Frag) (p n : Int) : Dat := if p = 0 then ratD K (Rat.divInt n 1) else resD K p (n % p)
def spTaken (K : PySem.W.Frag) : DSp := fun ds P R => ∃ p d, ds = [grD K p, d] ∧ (NumD K p d ∧ P d ∨ (∃ n, d = dI n ∧ NoNum K p d ∧ n.natAbs < 2 ^ 8900 ∧ P (intN K p n)) ∨ NoNum K p d ∧ IntB K d false ∧ R (He.ga K "Malformed"))
end Sf
namespace Sf
open PySem L2
/-! ### polynomials -/
def polD (K : PySem.W.Frag) (p : Int) (ds : List Dat) : Dat := .ins (He.ga K "Poly") ["ground", "row"] [grD K p, .tup ds]
structure PoF (K : PySem.W.Frag) : Prop where
  c : Cls K (He.ga K "Poly")
  g : NoAttr K (He.ga K "Poly") "ground"
  r : NoAttr K (He.ga K "Poly") "row"
section
variable {X : Cx} {W : WX} {R : RX} {ρ : List Sl} {P : PD} {pos : Pos} {e : Expr}
theorem we_pg (F : PoF X.K) (h : WE X W R e ρ fun d ρ' => ∃ p ds, d = polD X.K p ds ∧ P (grD X.K p) ρ') (hb : attributeBase e "ground" X.env (eval e X.env) = eval e X.env := by rfl) : WE X W R (.Attribute e "ground" pos) ρ P :=
  we_fld (h.imp fun d ρ' ⟨p, ds, e, q⟩ => ⟨_, _, _, _, e, F.c, F.g, rfl, q⟩) hb
theorem we_pr (F : PoF X.K) (h : WE X W R e ρ fun d ρ' => ∃ p ds, d = polD X.K p ds ∧ P (.tup ds) ρ') (hb : attributeBase e "row" X.env (eval e X.env) = eval e X.env := by rfl) : WE X W R (.Attribute e "row" pos) ρ P :=
  we_fld (h.imp fun d ρ' ⟨p, ds, e, q⟩ => ⟨_, _, _, _, e, F.c, F.r, rfl, q⟩) hb
end
/-- is a number 0, as a datum tells it -/
def ZeD (K : PySem.W.Frag) (d : Dat) (b : Bool) : Prop := (∃ x, d = ratD K x ∧ b = decide (x = 0)) ∨ (∃ p n, d = resD K p n ∧ b = decide (n = 0))
section
variable {X : Cx} {W : WX} {R : RX} {ρ : List Sl} {P : PD} {pos apos : Pos} {e : Expr} {l : Nat}
theorem we_zero {pl : Sem Bool} (cq : Cls X.K (He.ga X.K "Ratio")) (cr : Cls X.K (He.ga X.K "Residue")) (Zq : Mg X.prog X.w X.K X.mg X.base (He.ga X.K "Ratio") "is_zero" l [] (spZeroQ X.K)) (Zr : Mg X.prog X.w X.K X.mg X.base (He.ga X.K "Residue") "is_zero" l [] (spZeroR X.K)) (hr : Room l X.A) (tk : Takes X W)
    (h : WE X W R e ρ fun d ρ' => ∃ b, ZeD X.K d b ∧ P (dB b) ρ')
    (ht : eval (.Call (.Attribute e "is_zero" apos) [] [] pos) X.env = (do
      let ov ← eval e X.env
      standAt apos.atName
      let (f, first) ← holding [ov] (getMethod ov "is_zero" pl)
      callWith pos f first (backTo pos (starEach [] X.env)) (backToKw pos (keywordEach [] X.env))) := by rfl) : WE X W R (.Call (.Attribute e "is_zero" apos) [] [] pos) ρ P :=
  we_meth0 hr tk (h.imp fun d ρ' ⟨b, z, p⟩ => by
    rcases z with ⟨x, rfl, rfl⟩ | ⟨q, n, rfl, rfl⟩
    · exact ⟨_, _, _, [], _, rfl, cq, Zq, by decide +kernel, x, rfl, p⟩
    · exact ⟨_, _, _, [], _, rfl, cr, Zr, by decide +kernel, q, n, rfl, p⟩) ht
end
/-- what Poly makes of a list of numbers: zeros at the end dropped -/
inductive Trim (K : PySem.W.Frag) : List Dat → List Dat → Prop where
  | nil : Trim K [] []
  | stop {ds : List Dat} {d : Dat} (h : ZeD K d false) : Trim K (ds ++ [d]) (ds ++ [d])
  | drop {ds es : List Dat} {d : Dat} (h : ZeD K d true) (t : Trim K ds es) : Trim K (ds ++ [d]) es
/-- items that taken turns into numbers without a word -/
inductive TakD (K : PySem.W.Frag) (p : Int) : List Dat → List Dat → Prop where
  | nil : TakD K p [] []
  | num {d : Dat} {ds es : List Dat} (h : NumD K p d) (t : TakD K p ds es) : TakD K p (d :: ds) (d :: es)
  | int {n : Int} {ds es : List Dat} (h : NoNum K p (dI n)) (hb : n.natAbs < 2 ^ 8900) (t : TakD K p ds es) : TakD K p (dI n :: ds) (intN K p n :: es)
theorem TakD.get {K : PySem.W.Frag} {p : Int} {ds es : List Dat} (t : TakD K p ds es) : ∀ {j : Nat} {d : Dat}, ds[j]? = some d → ∃ e, es[j]? = some e ∧ ((NumD K p d ∧ e = d) ∨ ∃ n, d = dI n ∧ NoNum K p d ∧ n.natAbs < 2 ^ 8900 ∧ e = intN K p n) := by
  induction t with
  | nil => intro j d h; simp at h
  | num h t ih =>
    intro j d hj
    cases j with
    | zero => simp at hj; subst hj; exact ⟨_, rfl, .inl ⟨h, rfl⟩⟩
    | succ j => simpa using ih (by simpa using hj)
  | int h hb t ih =>
    intro j d hj
    cases j with
    | zero => simp at hj; subst hj; exact ⟨_, rfl, .inr ⟨_, rfl, h, hb, rfl⟩⟩
    | succ j => simpa using ih (by simpa using hj)
theorem TakD.length {K : PySem.W.Frag} {p : Int} {ds es : List Dat} (t : TakD K p ds es) : ds.length = es.length := by
  induction t with
  | nil => rfl
  | num h t ih => simp [ih]
  | int h hb t ih => simp [ih]
/-- Poly(ground, row), the rows that are taken -/
def spMkP (K : PySem.W.Frag) : DSp := fun ds P _ => ∃ p xs es rs, (ds = [grD K p, .lst xs] ∨ ds = [grD K p, .tup xs]) ∧ isG p ∧ xs.length ≤ 1000 ∧ TakD K p xs es ∧ Trim K es rs ∧ P (polD K p rs)
def spPoZ (K : PySem.W.Frag) : DSp := fun ds P _ => ∃ p rs, ds = [polD K p rs] ∧ P (dB (decide (rs.length = 0)))
def spPoD (K : PySem.W.Frag) : DSp := fun ds P _ => ∃ p rs, ds = [polD K p rs] ∧ P (dI ((rs.length : Int) - 1))
end Sf
namespace Sf
open PySem L2
theorem Isl.last {K : PySem.W.Frag} {F : Hp} {d : Dat} : ∀ {ds : List Dat} {vs : List V}, Isl K (ds ++ [d]) vs F → ∃ vs1 y, vs = vs1 ++ [y] ∧ Isl K ds vs1 F ∧ Is K d y F
  | [], _, h => by cases h with | cons h1 h2 => cases h2; exact ⟨[], _, rfl, .nil, h1⟩
  | z :: ds, _, h => by
    cases h with
    | cons h1 h2 =>
      obtain ⟨vs1, y, e, k1, k2⟩ := Isl.last (ds := ds) h2
      exact ⟨_ :: vs1, y, by rw [e]; rfl, .cons h1 k1, k2⟩
section
variable {X : Cx} {W : WX} {R : RX} {e a b c o elt tg iter : Expr} {es : List Expr} {st : Stmt} {sts rest body : List Stmt} {ρ : List Sl} {P : PD} {k : Kn} {pos pos' p apos : Pos} {x m : Str} {l : Nat} {dd : List V} {s : DSp} {scope : Scope} {own : List (Str × Nat)} {g : TG}
/-- C() -/
theorem we_make0 {C : Addr} (G : Kg X.prog X.w X.K X.mg X.base x C l dd s) (hr : Room (l + 1) X.A) (tk : Takes X W) (h : s (dd.map Dat.v) (fun d => P d ρ) (fun C => R C ρ)) (hg : Gl X x := by rfl) (hdb : (x == ("__debug__" : Str)) = false := by decide) : WE X W R (.Call (.Name x p) [] [] pos) ρ P := by
  obtain ⟨f, fd, ps, dv, Fn, M, hm, hb, hd⟩ := G.ex
  refine ⟨fun pins s1 σ na F0 H0 F1 H1 Q I1 c1 n1 xo q => ?_⟩
  refine wpAny_Call_Name_kw (ld_glob I1 hg hm ?_ hdb)
  refine PySem.W.callWith_K0 I1.kIn M.kp ?_
  have hs : s ([] ++ dd.map Dat.v) (fun d => P d ρ) (fun C => R C ρ) := h
  have hi : Isl X.K [] [] F1 := .nil
  have r : Vals [] [] := .nil
  rw [List.append_nil]
  generalize hus : ([] : List Value) = us at r ⊢
  generalize hvs : ([] : List V) = vs at r hi
  -- the new object and its dict
  have hx1 : H1 (s1.heap.objs.size + 1) = none := I1.hok.fresh (Nat.le_succ _)
  have hx0 : H1 s1.heap.objs.size = none := I1.hok.fresh (Nat.le_refl _)
  have hne : s1.heap.objs.size ≠ s1.heap.objs.size + 1 := Nat.ne_of_lt (Nat.lt_succ_self _)
  have I2 := Inv.made (C := C) I1
  generalize ex : s1.heap.objs.size + 1 = x0 at hx1 hne
  generalize ed : s1.heap.objs.size = dx at hx0 hne
  have HX : upd (upd H1 dx (.own x0)) x0 (.ins C dx []) x0 = some (.ins C dx []) := upd_same
  have st : Ex H1 (upd (upd H1 dx (.own x0)) x0 (.ins C dx [])) := fun q0 o hq0 => by
    rw [upd_ne (ne_of_none hq0 hx1), upd_ne (ne_of_none hq0 hx0)]
    exact hq0
  have fx : F1 x0 = none := fnone c1.fh hx1
  have r2 : Vals (V.ref x0 :: (vs ++ dd)) (Value.ref x0 :: (us ++ dv)) := .cons rfl (r.append hd)
  have key : liftI X.K C s (.ref x0 :: (vs ++ dd)) (upd (upd H1 dx (.own x0)) x0 (.ins C dx [])) (fun v H2 => v = .non ∧ Q (.ref x0) H2) (L2.WE W σ) := by
    refine ⟨x0, dx, vs ++ dd, F1, _, _, _, rfl, HX, c1.fh.trans st, fx, hi.append (isl_v dd), hs, fun ks es' ws dy F' H' c' hp hl hi' hP => ⟨rfl, ?_⟩, fun D F' H' c' hR => ?_⟩
    · have fx' : F' x0 = none := (c'.lv x0 rfl).2
      have stp : Stp F1 H1 (upd F' x0 (.ins C dy (ks.zip ws))) H' := by
        refine ⟨fun q0 o hq0 => ?_, fun q0 o hq0 => ?_, fun q0 o hq0 => ?_, fun q0 o h1 h2 => ?_⟩
        · rw [upd_ne (ne_of_none (c'.ff _ _ hq0) fx')]
          exact c'.ff _ _ hq0
        · exact c'.hh q0 o (fun z => ne_of_none hq0 hx1 (Option.some.inj z).symm) (st _ _ hq0)
        · by_cases z : q0 = x0
          · subst z; rw [upd_same] at hq0; cases hq0; exact hp
          · rw [upd_ne z] at hq0; exact c'.fh _ _ hq0
        · rw [upd_ne (ne_of_none h1 hx1)]
          exact c'.pr q0 o (st _ _ h1) h2
      exact q _ (.ref x0) ρ _ H' (c1.stp stp) (n1.stp stp) (.ins upd_same hl (hi'.mono fun q0 o hq0 => by rw [upd_ne (ne_of_none hq0 fx')]; exact hq0)) hP
    · have stp : Stp F1 H1 F' H' := ⟨c'.ff, fun q0 o hq0 => c'.hh q0 o (fun z => ne_of_none hq0 hx1 (Option.some.inj z).symm) (st _ _ hq0), c'.fh, fun q0 o h1 h2 => c'.pr q0 o (st _ _ h1) h2⟩
      exact xo D ρ σ F' H' (c1.stp stp) (n1.stp stp) hR
  have hl : (Value.ref x0 :: us ++ dv).length = ps.length := by
    have e0 := r2.length
    rw [Fn.len _ _ _ _ key] at e0
    exact e0.symm
  subst ex
  subst ed
  refine wpAny_call (make_map (f := f) I1.kIn M.makes M.init (beq_iff_eq.mp M.fn) (codeAny_mono (Fn.run _ X.stack _ _ ⟨_ :: us, []⟩ (_ :: (us ++ dv)) _ _ (L2.WE W σ) (hr.make C us []) (I2.env0.make C us []) (hb _ (_ :: us) I2.kIn hl) r2 key) fun r0 s' hq' => ?_))
  cases r0 with
  | error e => exact passAt tk σ pins _ _ e s' I2 hq'
  | ok fl =>
    cases fl with
    | ret u =>
      obtain ⟨v, H', I3, rv, ev, q3⟩ := I2.after hq'
      subst ev
      exact ⟨rv, ⟨V.ref (s1.heap.objs.size + 1), H', I3, rfl, q3⟩⟩
    | next => exact False.elim hq'
    | brk => exact False.elim hq'
    | cont => exact False.elim hq'


/-! ### lists of the def's own, again -/
/-- xs.pop() -/
theorem we_popE (i : Nat) {p1 apos cpos : Pos} {x1 : Str} {lb : Bool} {d : Dat} {ds : List Dat} (hi : ρ[i]? = some (.ow lb (ds ++ [d]))) (hp : P d (ρ.set i (.ow lb ds))) (hN : X.N[i]? = some x1 := by rfl) (hv : Vis X.env.scope x1 := by first | exact Or.inl rfl | exact Or.inr (Or.inl rfl) | exact Or.inr (Or.inr rfl))
    (hd : (x1 == ("__debug__" : Str)) = false := by decide) (hcd : (x1 == ("__classdict__" : Str)) = false := by decide)
    (hbase : attributeBase (.Name x1 p1) "pop" X.env (eval (.Name x1 p1) X.env) = eval (.Name x1 p1) X.env := by rfl) (hline : (apos.endLine == cpos.line) = true := by rfl) :
    WE X W R (.Call (.Attribute (.Name x1 p1) "pop" apos) [] [] cpos) ρ P :=
  .of (pe_bm0 PySem.F.plainAttrs_list PySem.F.slot_list_pop PySem.F.type_list_pop mt_pop (pe_var hN hv hd hcd) hbase hline) fun σ na F0 H0 F H Q c n xo q => by
    obtain ⟨a0, vs, g1, g2, g3, g4, g5, g6⟩ := n.ow i lb _ hi
    obtain ⟨vs1, y, rfl, h1, h2⟩ := g4.last
    refine ⟨_, g1, .inl ⟨rfl, _, .inl (.inl g3)⟩, a0, vs1 ++ [y], y, rfl, rfl, g3, by simp, ?_⟩
    rw [List.dropLast_concat]
    exact q d y _ F _ (c.upL g2 g5 g6) (n.upL hi g1 g2 g3 g5 g6 h1) h2 hp
/-- xs[-1], xs[j] of an own list -/
theorem we_ixO (i : Nat) {p1 : Pos} {x1 : Str} {lb : Bool} {ds : List Dat} (hi : ρ[i]? = some (.ow lb ds)) (h : WE X W R b ρ fun d2 ρ2 => ρ2 = ρ ∧ ∃ d, ((∃ j : Nat, d2 = dI j ∧ ds[j]? = some d) ∨ (d2 = dI (-1) ∧ ds[ds.length - 1]? = some d)) ∧ P d ρ) (hN : X.N[i]? = some x1 := by rfl)
    (hv : Vis X.env.scope x1 := by first | exact Or.inl rfl | exact Or.inr (Or.inl rfl) | exact Or.inr (Or.inr rfl)) (hd : (x1 == ("__debug__" : Str)) = false := by decide) (hcd : (x1 == ("__classdict__" : Str)) = false := by decide) (hs : PlainIx b := by exact fun _ _ => rfl) : WE X W R (.Subscript (.Name x1 p1) b pos) ρ P :=
  .of (pe_ix ix_seq (pe_var hN hv hd hcd) (pe_U (W := W)) hs) fun σ na F0 H0 F H Q c n xo q => by
    obtain ⟨a0, vs, g1, g2, g3, g4, g5, g6⟩ := n.ow i lb ds hi
    refine ⟨_, g1, ρ, _, R, na, F0, H0, F, h, c, n, xo, fun d2 y ρ2 F2 H2 c2 n2 hd2 ⟨e0, d, e2, hp⟩ => ?_⟩
    subst e0
    obtain ⟨a1, ws, k1, k2, k3, k4, k5, k6⟩ := n2.ow i lb ds hi
    rw [g1] at k1
    cases k1
    rcases e2 with ⟨j, rfl, hj⟩ | ⟨rfl, hj⟩
    · obtain ⟨v, h1, h2⟩ := k4.get hj
      exact .inl ⟨_, _, (j : Int), v, rfl, is_v hd2, .inl (.inl k3), atI_nat h1, q d v _ F2 H2 c2 n2 h2 hp⟩
    · obtain ⟨v, h1, h2⟩ := k4.get hj
      refine .inl ⟨_, _, -1, v, rfl, is_v hd2, .inl (.inl k3), ?_, q d v _ F2 H2 c2 n2 h2 hp⟩
      rw [k4.length] at h1
      have hl : ws.length - 1 < ws.length := (List.getElem?_eq_some_iff.mp h1).1
      have e : ixN ws.length (-1) = some (ws.length - 1) := by
        unfold ixN
        rw [if_neg (by decide), if_pos (by omega)]
        congr 1
        omega
      unfold atI
      rw [e]
      exact h1
/-- y = list(e): a list of the def's own -/
theorem ws_setList (i : Nat) {y : Str} {cp q : Pos} (hNd : X.N.Nodup) (hm : X.mg "list" = none) (h : WA X W R [a] ρ fun ds ρ' => ∃ es, (ds = [.lst es] ∨ ds = [.tup es]) ∧ k.nx (ρ'.set i (.ow false es))) (hi : X.N[i]? = some y := by rfl) (hx : Loc X.env.scope y := by first | exact Or.inl rfl | exact Or.inr rfl)
    (hg : Gl X "list" := by rfl) (he : starEach [a] X.env = (false, eval a X.env) :: starEach [] X.env := by rfl) (hpl : (backTo cp (starEach [] X.env)).any (·.1) = false := by rfl)
    (hsw : swapsWith (.Call (.Name "list" q) [a] [] cp) (some (.Name y pos')) pos.line X.env = pure false := by rfl) (hf : X.fn y = true ∨ X.env.scope.names.lookup y = some .local := by first | exact .inl rfl | exact .inr rfl | assumption) : WS X W R (.Assign [.Name y pos'] (.Call (.Name "list" q) [a] [] cp) pos) ρ k := by
  refine .of (ps_set hNd hi hx (pe_callTy call_list_of hg hm (show bootBuiltins "list" = some (.type "list") by decide +kernel) (pa_U (W := W)) (by decide) (by decide) he hpl) hsw hf) fun σ na F0 H0 F H D c n xo q => ⟨ρ, _, R, na, F0, H0, F, h, c, n, xo, fun ds vs ρ' F' H' c' n' hds ⟨es, e, p⟩ => ?_⟩
  have fin : ∀ (p0 : Addr) (ys : List V), vs = [V.ref p0] → (SqL X.K H' p0 ys ∨ SqT X.K H' p0 ys) → Isl X.K es ys F' → ∃ p ys, vs = [V.ref p] ∧ (SqL X.K H' p ys ∨ SqT X.K H' p ys) ∧ ∀ l, H' l = none → gName i (V.ref l) σ (upd H' l (.lst ys)) D.nx := fun p0 ys ev hq hs => by
    refine ⟨p0, ys, ev, hq, fun l hl => ?_⟩
    refine q.nx _ _ F' _ ⟨c'.ff, fun b u nb hb => ?_, fun b u hb => ?_, c'.pr, fun b hb => ?_, c'.nz⟩ (n'.setN c'.fh c'.hh (fun b hb => by obtain ⟨⟨u, hu⟩, _⟩ := c'.lv b hb; rw [hu]; exact fun z => nomatch z) hl hs) p
    · rw [upd_ne (ne_of_none (c'.hh b u nb hb) hl)]; exact c'.hh b u nb hb
    · rw [upd_ne (ne_of_none (c'.fh b u hb) hl)]; exact c'.fh b u hb
    · obtain ⟨⟨u, hu⟩, hf'⟩ := c'.lv b hb
      exact ⟨⟨u, by rw [upd_ne (ne_of_none hu hl)]; exact hu⟩, hf'⟩
  rcases e with rfl | rfl
  · cases hds with
    | cons h1 h2 =>
      cases h2
      cases h1 with
      | lst ha hs => exact fin _ _ rfl (.inl (c'.fh.sql ha)) hs
  · cases hds with
    | cons h1 h2 =>
      cases h2
      cases h1 with
      | tup ha hs => exact fin _ _ rfl (.inr (c'.fh.sqt ha)) hs
/-- isinstance(e, (list, tuple)) -/
theorem we_isiLT {q p1 p2 p3 : Pos} {k0 : Nat} (hm : X.mg "isinstance" = none) (hl : X.mg "list" = none) (ht : X.mg "tuple" = none) (h : WE X W R e ρ fun d ρ' => ∃ t bb, TyD X.K d t ∧ (∀ C ks fs, d = .ins C ks fs → ClsI X.K C) ∧ PySem.W.kitAny X.K t [.type "list", .type "tuple"] = some bb ∧ P (dB bb) ρ') (hg : Gl X "isinstance" := by rfl) (hgl : Gl X "list" := by rfl) (hgt : Gl X "tuple" := by rfl)
    (he : starEach [e, .Tuple [.Name "list" p1, .Name "tuple" p2] k0 p3] X.env = (false, eval e X.env) :: starEach [.Tuple [.Name "list" p1, .Name "tuple" p2] k0 p3] X.env := by rfl) (he2 : starEach [.Tuple [.Name "list" p1, .Name "tuple" p2] k0 p3] X.env = (false, eval (.Tuple [.Name "list" p1, .Name "tuple" p2] k0 p3) X.env) :: starEach [] X.env := by rfl)
    (he3 : starEach [.Name "list" p1, .Name "tuple" p2] X.env = (false, eval (.Name "list" p1) X.env) :: starEach [.Name "tuple" p2] X.env := by rfl) (he4 : starEach [.Name "tuple" p2] X.env = (false, eval (.Name "tuple" p2) X.env) :: starEach [] X.env := by rfl)
    (hpl : (backTo pos (starEach [.Tuple [.Name "list" p1, .Name "tuple" p2] k0 p3] X.env)).any (·.1) = false := by rfl) : WE X W R (.Call (.Name "isinstance" q) [e, .Tuple [.Name "list" p1, .Name "tuple" p2] k0 p3] [] pos) ρ P :=
  .of (pe_callB call_isiT hg hm (show bootBuiltins "isinstance" = some (.builtin "isinstance") by decide +kernel) (pa_cons (pe_U (W := W)) (pa_cons (pe_tup (pa_cons (pe_bltn (v := .ty "list") hgl hl (by decide +kernel) rfl (by decide) (by decide)) (pa_cons (pe_bltn (v := .ty "tuple") hgt ht (by decide +kernel) rfl (by decide) (by decide)) pa_nil he4) he3)) pa_nil he2) he) (by decide) (by decide) he hpl) fun σ na F0 H0 F H Q c n xo q =>
    ⟨ρ, _, R, na, F0, H0, F, h, c, n, xo, fun d v ρ' F' H' c' n' hd ⟨t, bb, ty, ci, hk, hp⟩ => ⟨by decide, fun a ha => by
      have st := Stp.junk (o := .tup [V.ty "list", V.ty "tuple"]) c'.fh ha
      exact ⟨v, a, [V.ty "list", V.ty "tuple"], t, [.type "list", .type "tuple"], bb, rfl, upd_same, .cons (.ty _) (.cons (.ty _) .nil), ty.tyx ci (c'.stp st).fh (hd.mono st.ff), hk, q _ _ ρ' F' _ (c'.stp st) (n'.stp st) .v hp⟩⟩⟩
end
end Sf
namespace Sf
open PySem L2
section
variable {X : Cx} {W : WX} {R : RX} {e a b c o elt cnd tg iter : Expr} {es : List Expr} {st : Stmt} {sts rest body : List Stmt} {ρ : List Sl} {P : PD} {k : Kn} {pos pos' p apos : Pos} {x m : Str} {l : Nat} {dd : List V} {s : DSp} {scope : Scope} {own : List (Str × Nat)} {g : TG}
/-! ### comprehensions with a test -/
def tUTb (X : Cx) (scope : Scope) (cnd : Expr) : TT := fun σ H Q => ∃ ρ P na F0 H0 F, (∀ (s : Shared) (H : Hp) (C : Addr) (cl : List (Str × Addr)) (fp : List Addr), WT (X.blk s H scope (compEnvC scope cl C X.env) fp) W0 R0 cnd ρ P) ∧ Cur na F0 H0 F H ∧ Env1 X.K ρ σ na H0 F H ∧
  ∀ b ρ' F' H', Cur na F0 H0 F' H' → Env1 X.K ρ' σ na H0 F' H' → P b ρ' → Q b H'
theorem pt_Ub (s : Shared) (H : Hp) (C : Addr) (cl : List (Str × Addr)) (fp : List Addr) : PTs (X.blk s H scope (compEnvC scope cl C X.env) fp) [cnd] (tUTb X scope cnd) :=
  pts_one ⟨fun pins s σ H Q I ⟨ρ, P, na, F0, H0, F, w, c, n, q⟩ => (w _ _ _ _ _).run pins s σ na F0 H0 F H Q I c n (fun _ _ _ _ _ _ _ z => z.elim) q⟩
structure LcI (X : Cx) (scope : Scope) (vs : List Nat) (elt cnd : Expr) (g : TG) (ρ0 : List Sl) (ds : List Dat) (P : List Dat → List Sl → Prop) : Prop where
  ex : ∃ Iv : Nat → List Dat → List Sl → Prop, Iv 0 [] (wip ρ0 vs) ∧ (∀ j d' acc ρ, ds[j]? = some d' → Iv j acc ρ → acc.length ≤ j → TgB X.K g vs d' ρ fun ρ2 =>
    ∀ (s : Shared) (H : Hp) (C : Addr) (cl : List (Str × Addr)) (fp : List Addr), WT (X.blk s H scope (compEnvC scope cl C X.env) fp) W0 R0 cnd ρ2 fun t ρ3 =>
      (t = true → ∀ (s : Shared) (H : Hp) (C : Addr) (cl : List (Str × Addr)) (fp : List Addr), WE (X.blk s H scope (compEnvC scope cl C X.env) fp) W0 R0 elt ρ3 fun y ρ4 => Iv (j + 1) (acc ++ [y]) (wip ρ4 vs)) ∧ (t = false → Iv (j + 1) acc (wip ρ3 vs))) ∧
    ∀ acc ρ, Iv ds.length acc ρ → P acc (bak ρ0 ρ vs)
  le : ds.length ≤ 100000
theorem upd_id {H : Hp} {D : Addr} {o : HO} (h : H D = some o) : upd H D o = H := by
  funext q
  by_cases z : q = D
  · subst z; rw [upd_same, h]
  · rw [upd_ne z]
theorem lcp_turnI {σ : L2.St} {na : Option Addr} {F0 H0 F1 H1 H : Hp} {D : Addr} {Iv : Nat → List Dat → List Sl → Prop} {j : Nat} {d' : Dat} {x : V} {vs : List Nat} (hj : j < 100000) (fr : Fr0 na H0 H1 D) (hx : Is X.K d' x F1)
    (hE : ∀ acc ρ, Iv j acc ρ → acc.length ≤ j → TgB X.K g vs d' ρ fun ρ2 => ∀ (s : Shared) (H : Hp) (C : Addr) (cl : List (Str × Addr)) (fp : List Addr), WT (X.blk s H scope (compEnvC scope cl C X.env) fp) W0 R0 cnd ρ2 fun t ρ3 =>
      (t = true → ∀ (s : Shared) (H : Hp) (C : Addr) (cl : List (Str × Addr)) (fp : List Addr), WE (X.blk s H scope (compEnvC scope cl C X.env) fp) W0 R0 elt ρ3 fun y ρ4 => Iv (j + 1) (acc ++ [y]) (wip ρ4 vs)) ∧ (t = false → Iv (j + 1) acc (wip ρ3 vs)))
    (p : LcP X.K σ vs na F0 H0 F1 D Iv j H) : g x (wipe σ vs) H fun σ2 H2 => wipe σ2 vs = wipe σ vs ∧ tUTb X scope cnd σ2 H2 fun b H3 =>
      if b = true then tUb X scope elt σ2 H3 fun y H4 => ∃ acc, H4 D = some (.lst acc) ∧ acc.length < sizeLine ∧ LcP X.K σ vs na F0 H0 F1 D Iv (j + 1) (upd H4 D (.lst (acc ++ [y]))) else LcP X.K σ vs na F0 H0 F1 D Iv (j + 1) H3 := by
  obtain ⟨F, acc, us, ρ, c, n, ff, fD, hD, hi, hl, iv, nD⟩ := p.ex
  have c0 := c.inD hD
  refine (hE acc ρ iv hl).run σ (wipe σ vs) na F (upd H0 D (.lst us)) F H x _ wipe_wipe c0 (n.inD nD) (hx.mono ff) fun ρ2 σ2 e2 n2 w2 => ⟨e2, ?_⟩
  refine ⟨ρ2, _, na, F, upd H0 D (.lst us), F, w2, c0, n2, fun t ρ3 F3 H3 c3 n3 wt => ?_⟩
  cases t with
  | true =>
    refine iteT ?_
    refine ⟨ρ3, _, na, F, upd H0 D (.lst us), F3, wt.1 rfl, c3, n3, fun y v ρ4 F' H' c' n' hd iv' => ?_⟩
    have hD' : H' D = some (.lst us) := c'.hh D _ fr.nn upd_same
    have hf : F' D = none := c'.pr D _ upd_same fD
    refine ⟨us, hD', ?_, F', acc ++ [y], us ++ [v], wip ρ4 vs, c.outD c' fr.h0 fD fr.nn, ?_, ff.trans c'.ff, hf, upd_same, (hi.mono c'.ff).append (.cons hd .nil), by rw [List.length_append, List.length_singleton]; omega, iv', ?_⟩
    · rw [← hi.length]; exact Nat.lt_of_le_of_lt hl (Nat.lt_trans hj (by decide))
    · have := (n'.wip vs).outD (u := .lst (us ++ [v])) fr.nn
      rw [e2] at this
      exact this
    · have := (n'.wip vs).notAt fr.nn
      rw [e2] at this
      exact this
  | false =>
    refine iteF ?_
    have hD' : H3 D = some (.lst us) := c3.hh D _ fr.nn upd_same
    have hf : F3 D = none := c3.pr D _ upd_same fD
    have cc := c.outD (u := .lst us) c3 fr.h0 fD fr.nn
    have nn := (n3.wip vs).outD (u := .lst us) fr.nn
    rw [upd_id hD'] at cc nn
    rw [e2] at nn
    refine ⟨F3, acc, us, wip ρ3 vs, cc, nn, ff.trans c3.ff, hf, hD', hi.mono c3.ff, by omega, wt.2 rfl, ?_⟩
    have := (n3.wip vs).notAt fr.nn
    rw [e2] at this
    exact this
/-- range(i, j, -1) as data -/
def dwnD (i j : Int) : List Dat := (List.range (i - j).toNat).map fun t : Nat => dI (i - (t : Int))
theorem dwnD_get {i j : Int} {t : Nat} (h : t < (i - j).toNat) : (dwnD i j)[t]? = some (dI (i - (t : Int))) := by unfold dwnD; rw [List.getElem?_map, List.getElem?_range h]; rfl
theorem dwnD_length (i j : Int) : (dwnD i j).length = (i - j).toNat := by unfold dwnD; rw [List.length_map, List.length_range]
theorem lc_readD {σ : L2.St} {na : Option Addr} {F0 H0 F H : Hp} {Q : VK} {PL : List Dat → List Sl → Prop} {vs : List Nat} {t3 : Expr} (c : Cur na F0 H0 F H) (n : Env1 X.K ρ σ na H0 F H) (xo : ExcOk X.K W R na F0 H0)
    (h : WA X W R [a, b, t3] ρ fun as ρ0 => ∃ i j : Int, as = [dI i, dI j, dI (-1)] ∧ (i ≤ 100000 ∧ -100000 ≤ i ∧ j ≤ 100000 ∧ -100000 ≤ j) ∧ LcI X scope vs elt cnd g ρ0 (dwnD i j) PL) (q : EndQ X.K σ vs na F0 H0 PL Q) : tLc (iRng3 (tUA X W [a, b, t3])) g (tUTb X scope cnd) (tUb X scope elt) vs σ H Q :=
  ⟨ρ, _, R, na, F0, H0, F, h, c, n, xo, fun as ws ρ0 F1 H1 c1 n1 hd ⟨i, j, e, hb, L⟩ => by
    subst e
    obtain ⟨Iv, i0, ie, fin⟩ := L.ex
    have ew : ws = [.int i, .int j, .int (-1)] := by
      cases hd with
      | cons h1 h2 =>
        cases h2 with
        | cons h3 h4 =>
          cases h4 with
          | cons h5 h6 => cases h6; rw [is_v h1, is_v h3, is_v h5]
    have hl := L.le
    rw [dwnD_length] at hl
    refine ⟨i, j, -1, (i - j).toNat, ew, RgC.neg (by omega) (by omega) (by omega) (by omega), fun D hD => ?_⟩
    have fr := fr0 c1 hD
    refine lc_it (walk_rangeC (lo := i) (c := -1) (n := (i - j).toNat)) (Qd := fun H' => Q (.ref D) H') (LcP X.K σ vs na F0 H0 F1 D Iv) (lcp_start c1 n1 hD i0) (fun _ _ _ _ => trivial) (fun t x H' H2 ht p y => ?_) (fun H' p => ?_)
    · obtain ⟨rfl, rfl⟩ := y
      have e0 : (fun s : Nat => V.int (i + (s : Int) * -1)) t = V.int (i - (t : Int)) := by
        show V.int (i + (t : Int) * -1) = V.int (i - (t : Int))
        congr 1
        omega
      rw [e0]
      exact lcp_turnI (F1 := F1) (by omega) fr .v (fun acc ρ' iv hl => ie t _ acc ρ' (dwnD_get ht) iv hl) p
    · have e1 := dwnD_length i j
      rw [e1] at fin
      exact q ρ0 F1 H1 D Iv _ H' fr n1 p fin⟩
theorem we_lcD (own : List (Str × Nat)) {rp : Pos} {t3 : Expr} (hN : X.N.Nodup) (hc : X.calm = true) (hm : X.mg "range" = none) (ok : BlkOk X.N X.env.scope scope own) (hg : ∀ (s : Shared) (H : Hp) (C : Addr) (cl : List (Str × Addr)) (fp : List Addr), PG (X.blk s H scope (compEnvC scope cl C X.env) fp) tg g)
    (h : WA X W R [a, b, t3] ρ fun as ρ0 => ∃ i j : Int, as = [dI i, dI j, dI (-1)] ∧ (i ≤ 100000 ∧ -100000 ≤ i ∧ j ≤ 100000 ∧ -100000 ≤ j) ∧ LcI X scope (own.map (·.2)) elt cnd g ρ0 (dwnD i j) fun acc ρ' => P (.lst acc) ρ') (hgl : Gl X "range" := by rfl)
    (hst : starEach [a, b, t3] X.env = (false, eval a X.env) :: starEach [b, t3] X.env := by rfl) (hpl : (backTo pos' (starEach [b, t3] X.env)).any (·.1) = false := by rfl)
    (hs : ∀ x, foldedSetIterable (.Call (.Name "range" rp) [a, b, t3] [] pos') X.env x = pure x := by intro _; rfl) : WE X W R (.ListComp elt [⟨tg, .Call (.Name "range" rp) [a, b, t3] [] pos', [cnd], 0⟩] scope pos) ρ P :=
  .of (pe_lc hc hN (pi_range3 hgl hm (pa_U (W := W)) hst hpl) ok hg pt_Ub pe_Ub hs) fun σ na F0 H0 F H Q c n x q => lc_readD c n x h (endP q)
/-- for name in range(i, j, -1) -/
theorem ws_forD (i : Nat) {rp np : Pos} {y : Str} {t3 : Expr} (hp : PassesOwn (model X.prog X.w) X.A X.env X.xe) (hc : X.calm = true) (hN : X.N.Nodup) (hm : X.mg "range" = none)
    (h : WA X W R [a, b, t3] ρ fun ds ρ0 => ∃ (u v : Int) (Iv : Nat → List Sl → Prop), ds = [dI u, dI v, dI (-1)] ∧ (u ≤ 100000 ∧ -100000 ≤ u ∧ v ≤ 100000 ∧ -100000 ≤ v) ∧ Iv 0 ρ0 ∧
      (∀ (t : Nat) ρ', t < (u - v).toNat → Iv t ρ' → WSs X W R body (ρ'.set i (.pu (dI (u - (t : Int))))) { k with nx := Iv (t + 1), ct := Iv (t + 1), bk := k.nx }) ∧ ∀ ρ', Iv (u - v).toNat ρ' → k.nx ρ')
    (hi : X.N[i]? = some y := by rfl) (hx : Loc X.env.scope y := by first | exact Or.inl rfl | exact Or.inr rfl) (hf : X.fn y = true ∨ X.env.scope.names.lookup y = some .local := by first | exact .inl rfl | exact .inr rfl)
    (hg : Gl X "range" := by rfl) (hst : starEach [a, b, t3] X.env = (false, eval a X.env) :: starEach [b, t3] X.env := by rfl) (hpl : (backTo pos' (starEach [b, t3] X.env)).any (·.1) = false := by rfl) :
    WS X W R (.For (.Name y np) (.Call (.Name "range" rp) [a, b, t3] [] pos') body [] pos) ρ k :=
  .of (ps_for hp hc (pi_range3 hg hm (pa_U (W := W)) hst hpl) (pg_name hN hi hx hf) (pss_U (W := W))) fun σ na F0 H0 F H D cu n xo q => ⟨ρ, _, R, na, F0, H0, F, h, cu, n, xo, fun ds vs ρ0 F1 H1 c1 n1 hd hh => by
    obtain ⟨u, v, Iv, rfl, hb, i0, ih, ie⟩ := hh
    have ev : vs = [.int u, .int v, .int (-1)] := by
      cases hd with
      | cons h1 h2 =>
        cases h2 with
        | cons h3 h4 =>
          cases h4 with
          | cons h5 h6 => cases h6; rw [is_v h1, is_v h3, is_v h5]
    refine ⟨u, v, -1, (u - v).toNat, ev, RgC.neg (by omega) (by omega) (by omega) (by omega), for_rangeC (lo := u) (c := -1) (n := (u - v).toNat) (fun t σ' H' => ∃ ρ' F', Cur na F0 H0 F' H' ∧ Env1 X.K ρ' σ' na H0 F' H' ∧ Iv t ρ') ⟨ρ0, F1, c1, n1, i0⟩ (fun t σ' H' ht hw => ?_) (fun σ' H' hw => ?_)⟩
    · obtain ⟨ρ', F', c', n', hi'⟩ := hw
      have e0 : u + (t : Int) * -1 = u - (t : Int) := by omega
      show tUSs X W body _ (σ'.set i (some (.int (u + (t : Int) * -1)))) H'
      rw [e0]
      exact ⟨_, _, R, na, F0, H0, F', ih t ρ' ht hi', c', n'.set .v, xo, ⟨fun ρ3 σ3 F3 H3 c3 n3 h => ⟨ρ3, F3, c3, n3, h⟩, q.rt, fun ρ3 σ3 F3 H3 c3 n3 h => q.nx ρ3 σ3 F3 H3 c3 n3 h, fun ρ3 σ3 F3 H3 c3 n3 h => ⟨ρ3, F3, c3, n3, h⟩, q.ro⟩⟩
    · obtain ⟨ρ', F', c', n', hi'⟩ := hw
      exact q.nx ρ' σ' F' H' c' n' (ie ρ' hi')⟩
/-- "..".join(a list of texts) -/
def strsD (ys : List Str) : List Dat := ys.map dS
theorem isl_strs {K : PySem.W.Frag} {F : Hp} : ∀ {ys : List Str} {vs : List V}, Isl K (strsD ys) vs F → vs = ys.map V.str
  | [], _, h => by cases h; rfl
  | y :: ys, _, h => by
    cases h with
    | cons h1 h2 => rw [is_v h1, isl_strs h2]; rfl
theorem we_join {apos : Pos} (h : WE X W R o ρ fun d1 ρ1 => ∃ z : Str, d1 = dS z ∧ WE X W R e ρ1 fun d2 ρ2 => ∃ ys : List Str, d2 = .lst (strsD ys) ∧ (ys.map (·.length)).sum + ys.length * z.length ≤ 100000 ∧ P (dS (Str.join z ys)) ρ2)
    (hs : starEach [e] X.env = [(false, eval e X.env)] := by rfl) (hbase : attributeBase o "join" X.env (eval o X.env) = eval o X.env := by rfl) (hline : (apos.endLine == pos.line) = true := by rfl) : WE X W R (.Call (.Attribute o "join" apos) [e] [] pos) ρ P :=
  .of (pe_join (pe_U (W := W)) (pe_U (W := W)) hs hbase hline) fun σ na F0 H0 F H Q c n xo q => ⟨ρ, _, R, na, F0, H0, F, h, c, n, xo, fun d1 v1 ρ1 F1 H1 c1 n1 h1 ⟨z, e1, p1⟩ => by
    subst e1
    refine ⟨⟨z, is_v h1⟩, ρ1, _, R, na, F0, H0, F1, p1, c1, n1, xo, fun d2 v2 ρ2 F2 H2 c2 n2 h2 ⟨ys, e2, hl, hp⟩ => ?_⟩
    subst e2
    cases h2 with
    | lst ha hs =>
      have ev := isl_strs hs
      subst ev
      exact ⟨z, _, ys, is_v h1, rfl, .inl (c2.fh.sql ha), Nat.le_trans hl (by decide), by rw [TL.join_eq]; exact q _ _ ρ2 F2 H2 c2 n2 .v hp⟩⟩
end
end Sf
namespace Sf
open PySem L2
section
variable {X : Cx} {W : WX} {R : RX} {e a b c d o : Expr} {es : List Expr} {ρ : List Sl} {P : PD} {pos : Pos}
/-- the parts of a text with braces, one behind the other -/
def WJ (X : Cx) (W : WX) (R : RX) : List Expr → Str → List Sl → (Str → List Sl → Prop) → Prop
  | [], acc, ρ, P => P acc ρ
  | e :: es, acc, ρ, P => WE X W R e ρ fun d ρ' => ∃ y : Str, d = dS y ∧ acc.length + y.length ≤ 100000 ∧ WJ X W R es (acc ++ y) ρ' P
theorem pjs : ∀ es : List Expr, PJ X es (es.map fun e => tU X W e)
  | [] => .nil
  | e :: es => .cons pe_U (pjs es)
theorem wj_read {σ : L2.St} {na : Option Addr} {F0 H0 : Hp} {Q : Str → Hp → Prop} (xo : ExcOk X.K W R na F0 H0) : ∀ {es : List Expr} {acc : Str} {ρ : List Sl} {P : Str → List Sl → Prop} {F H : Hp}, WJ X W R es acc ρ P → Cur na F0 H0 F H → Env1 X.K ρ σ na H0 F H → (∀ y ρ' F' H', Cur na F0 H0 F' H' → Env1 X.K ρ' σ na H0 F' H' → P y ρ' → Q y H') → tJs (es.map fun e => tU X W e) acc σ H Q
  | [], _, _, _, _, _, p, c, n, q => q _ _ _ _ c n p
  | e :: es, acc, ρ, P, F, H, h, c, n, q => ⟨ρ, _, R, na, F0, H0, F, h, c, n, xo, fun d v ρ' F' H' c' n' hd ⟨y, e1, hl, w⟩ => by
    subst e1
    refine ⟨y, is_v hd, ?_, wj_read xo w c' n' q⟩
    rw [Str.length_append]
    exact Nat.le_trans hl (by decide)⟩
theorem we_js (h : WJ X W R (a :: b :: es) Str.empty ρ fun y ρ' => P (dS y) ρ') : WE X W R (.JoinedStr (a :: b :: es) pos) ρ P :=
  .of (pe_joined (pjs (W := W) (a :: b :: es))) fun σ na F0 H0 F H Q c n x q => wj_read x h c n fun y ρ' F' H' c' n' p => q _ _ ρ' F' H' c' n' .v p
end
/-! ### texts of numbers and polynomials -/
inductive StrD (K : PySem.W.Frag) : Dat → Str → Prop where
  | q (x : Rat) (h1 : x.num.natAbs < 10 ^ 64) (h2 : x.den < 10 ^ 64) : StrD K (ratD K x) (if x.den = 1 then toString x.num else (toString x.num : Str) ++ ("/" ++ (toString (x.den : Int) : Str)))
  | r (p n : Int) (h : RB p n) : StrD K (resD K p n) (toString n)
theorem WA.imp {X : Cx} {W : WX} {R : RX} {es : List Expr} {ρ : List Sl} {P P' : List Dat → List Sl → Prop} (h : WA X W R es ρ P) (i : ∀ ds ρ', P ds ρ' → P' ds ρ') : WA X W R es ρ P' :=
  ⟨fun pos pins s σ na F0 H0 F H Q I c n x q => h.run pos pins s σ na F0 H0 F H Q I c n x fun ds vs ρ' F' H' c' n' hd p => q ds vs ρ' F' H' c' n' hd (i ds ρ' p)⟩
/-- str(a number) -/
theorem we_strN {X : Cx} {W : WX} {R : RX} {ρ : List Sl} {P : PD} {a : Expr} {q pos : Pos} (hm : X.mg "str" = none) (Sq : Mg X.prog X.w X.K X.mg X.base (He.ga X.K "Ratio") "__str__" 3 [] (spStrQ X.K)) (Sr : Mg X.prog X.w X.K X.mg X.base (He.ga X.K "Residue") "__str__" 3 [] (spStrR X.K)) (hr : Room 5 X.A) (tk : Takes X W)
    (h : WA X W R [a] ρ fun ds ρ' => ∃ d y, ds = [d] ∧ StrD X.K d y ∧ P (dS y) ρ') (hg : Gl X "str" := by rfl) (he : starEach [a] X.env = (false, eval a X.env) :: starEach [] X.env := by rfl) (hpl : (backTo pos (starEach [] X.env)).any (·.1) = false := by rfl) : WE X W R (.Call (.Name "str" q) [a] [] pos) ρ P :=
  we_strO (l := 3) hm hr tk (h.imp fun ds ρ' ⟨d, y, e, hs, hp⟩ => by
    subst e
    cases hs with
    | q x g1 g2 => exact ⟨_, _, _, _, rfl, Sq, x, rfl, g1, g2, _, rfl, hp⟩
    | r q n B => exact ⟨_, _, _, _, rfl, Sr, q, n, rfl, B, _, rfl, hp⟩) hg he hpl
def termT (y : Str) (k : Nat) : Str := if k = 0 then "(" ++ y ++ ")" else if k = 1 then "(" ++ y ++ ")*x" else "(" ++ y ++ ")*x^" ++ (toString (k : Int) : Str)
def spTerm (K : PySem.W.Frag) : DSp := fun ds P _ => ∃ d y, ∃ k : Nat, ds = [d, dI k] ∧ StrD K d y ∧ y.length ≤ 200 ∧ k ≤ 100 ∧ P (dS (termT y k))
/-- the texts of the items, none for 0 -/
def TxD (K : PySem.W.Frag) (rs : List Dat) (tx : Nat → Option Str) : Prop := ∀ (i : Nat) (d : Dat), rs[i]? = some d → match tx i with | none => ZeD K d true | some y => ZeD K d false ∧ StrD K d y ∧ y.length ≤ 200
def polL (tx : Nat → Option Str) (n : Nat) : List Str := (List.range n).reverse.filterMap fun i => (tx i).map fun y => termT y i
def polT (tx : Nat → Option Str) (n : Nat) : Str := if n = 0 then "0" else Str.join " + " (polL tx n)
def spPoS (K : PySem.W.Frag) : DSp := fun ds P _ => ∃ p rs tx, ds = [polD K p rs] ∧ rs.length ≤ 20 ∧ TxD K rs tx ∧ P (dS (polT tx rs.length))
theorem str_small {k : Nat} (h : k ≤ 100) : (Str.ofString (toString (k : Int))).length ≤ 3 := str_len (by omega) (by simp; omega) (by decide)
theorem len_lit1 : (Str.ofString "(").length = 1 ∧ (Str.ofString ")").length = 1 ∧ (Str.ofString ")*x").length = 3 ∧ (Str.ofString ")*x^").length = 4 ∧ (Str.ofString " + ").length = 3 := by decide +kernel
theorem termT_len {y : Str} {k : Nat} (hy : y.length ≤ 200) (hk : k ≤ 100) : (termT y k).length ≤ 300 := by
  have h := str_small hk
  obtain ⟨l1, l2, l3, l4, _⟩ := len_lit1
  unfold termT
  split
  · rw [Str.length_append, Str.length_append]; omega
  · split
    · rw [Str.length_append, Str.length_append]; omega
    · rw [Str.length_append, Str.length_append, Str.length_append]; omega
theorem sum_le {ys : List Str} {b : Nat} (h : ∀ y ∈ ys, y.length ≤ b) : (ys.map (·.length)).sum ≤ ys.length * b := by
  induction ys with
  | nil => simp
  | cons y ys ih =>
    have h1 := h y List.mem_cons_self
    have h2 := ih fun z hz => h z (List.mem_cons_of_mem _ hz)
    rw [List.map_cons, List.sum_cons, List.length_cons, Nat.succ_mul]
    omega
end Sf
set_option autoImplicit true
set_option maxHeartbeats 0
namespace K11
open PySem L2 Sf
section
variable {P : Program} {w : World} {K : PySem.W.Frag} {mg : Str → Option Value} {base : Heap}
abbrev FnP (K : PySem.W.Frag) (x qual : Str) (st : Stmt) (f : Addr) (fd : FuncData) : Prop := FunD K x qual (defArgs st) (defBody st) (defScope st) [] [] f fd
theorem cix_ratio (T : Tx K mg) : ClsI K (He.ga K "Ratio") := ⟨T.c_Ratio, T.oi_Ratio.1, T.oc.1, T.oc.2, T.oi_Ratio.2⟩
theorem cix_residue (T : Tx K mg) : ClsI K (He.ga K "Residue") := ⟨T.c_Residue, T.oi_Residue.1, T.oc.1, T.oc.2, T.oi_Residue.2⟩

/-! ### _require_ratio -/

/-! ### is_integer -/
theorem sc_is_integer : FnScope ["value"] ["value"] (defScope s_is_integer) := ⟨rfl, rfl, rfl, by decide +kernel, rfl, by decide +kernel, by decide +kernel⟩
theorem ok_is_integer {f : Addr} {fd : FuncData} (F : FnP K "is_integer" "is_integer" s_is_integer f fd) (T : Tx K mg) : FnOk P w K mg base (L2.CX P w) 1 f fd ["value"] (lift K (spIsInt K)) := by
  refine def_ok F sc_is_integer (fun ds P R h => ?_) (fun cdv A outer s0 H E ds Pd R hr hs => ?_)
  · obtain ⟨d, bb, rfl, _⟩ := h
    rfl
  · obtain ⟨d, bb, rfl, ⟨⟨t, b1, b2, ty, h1, h2, rfl⟩, ci⟩, hp⟩ := hs
    refine wss_one (ws_ret (we_and (we_isi T.f_isinstance (wa_cons (we_var 0 rfl (wa_cons (we_ty T.f_int (by decide +kernel) (wa_nil ⟨_, .ty _, _, _, b1, rfl, ty, ci, .ty _, h1, b1, rfl, fun e => ?_, fun e => ?_⟩))))))))
    · refine we_last (we_not (we_isi T.f_isinstance (wa_cons (we_var 0 rfl (wa_cons (we_ty T.f_bool (by decide +kernel) (wa_nil ⟨_, .ty _, _, _, b2, rfl, ty, ci, .ty _, h2 e, b2, rfl, ?_⟩)))))))
      subst e
      exact hp
    · subst e
      exact hp

/-! ### Ratio.__init__ -/
theorem sc_Ratiou_initu : FnScope ["self", "n", "d", "common"] ["self", "n", "d"] (defScope s_Ratiou_initu) := ⟨rfl, rfl, rfl, by decide +kernel, rfl, by decide +kernel, by decide +kernel⟩
theorem ok_Ratiou_initu {f : Addr} {fd : FuncData} {dv : List V} (F : FunD K "__init__" "Ratio.__init__" (defArgs s_Ratiou_initu) (defBody s_Ratiou_initu) (defScope s_Ratiou_initu) dv [] f fd) (T : Tx K mg) : FnOk P w K mg base (L2.CX P w) 1 f fd ["self", "n", "d"] (liftI K (He.ga K "Ratio") (spMkQ K)) := by
  refine init_ok F sc_Ratiou_initu (fun ds P R h => ?_) (fun cdv A outer s0 H E ds Pd R hr hs => ?_)
  · obtain ⟨n, d, rfl, _⟩ := h
    rfl
  · obtain ⟨n, d, rfl, hz, ho⟩ := hs
    refine wss_cons (ws_if (wt_cmp (we_var 2 rfl (we_int (od_eqI ⟨_, rfl, fun e => ?_, fun e => ?_⟩)))))
    · exact wss_one (ws_raise ⟨T.g_ZeroDivisor, ⟨_, T.e_ZeroDivisor.1, rfl⟩, T.e_ZeroDivisor.2.1, T.e_ZeroDivisor.2.2.1, T.e_ZeroDivisor.2.2.2⟩ rfl takesB (hz (of_decide_eq_true e)))
    · have hd : d ≠ 0 := of_decide_eq_false e
      obtain ⟨b1, b2, b3, hp⟩ := ho hd
      have hg : 0 < Nat.gcd n.natAbs d.natAbs := Nat.gcd_pos_of_pos_right _ (by omega)
      have hgl : Nat.gcd n.natAbs d.natAbs ≤ d.natAbs := Nat.gcd_le_right _ (by omega)
      refine wss_nil (wss_cons (ws_set 3 sc_Ratiou_initu.nd (we_gcd T.b_gcd (wa_cons (we_var 1 rfl (wa_cons (we_var 2 rfl (wa_nil ⟨n, d, rfl, ?_⟩)))))))) 
      refine wss_cons (ws_if (wt_cmp (we_var 2 rfl (we_int (od_lt ⟨_, rfl, fun e => ?_, fun e => ?_⟩)))))
      · have hn : d < 0 := of_decide_eq_true e
        obtain ⟨p1, p2⟩ := divInt_partsN (n := n) hn
        refine wss_one (ws_set 3 sc_Ratiou_initu.nd (we_neg (we_var 3 rfl ⟨_, rfl, ?_⟩)))
        refine wss_cons (ws_fld 0 rfl (we_bin (we_var 1 rfl (we_var 3 rfl (od_I op_fdivN ⟨by omega, by have := b3 hn; omega⟩ ⟨_, _, _, rfl, T.c_Ratio, T.n_Ratio_n, (fun z => nomatch z), by decide, ?_⟩)))))
        refine wss_one (ws_fld 0 rfl (we_bin (we_var 2 rfl (we_var 3 rfl (od_I op_fdivN ⟨by omega, by have := b3 hn; omega⟩ ⟨_, _, _, rfl, T.c_Ratio, T.n_Ratio_d, (by decide +kernel), by decide, _, _, rfl, ?_⟩)))))
        rw [← p1, ← p2]
        exact hp
      · have hn : 0 < d := by have := of_decide_eq_false e; omega
        obtain ⟨p1, p2⟩ := divInt_parts (n := n) hn
        have hw : CDivW n ((Nat.gcd n.natAbs d.natAbs : Nat) : Int) := wide_div (b := 8900) (by omega) (Nat.lt_of_le_of_lt (by omega) b2) (by decide) (by decide)
        refine wss_nil (wss_cons (ws_fld 0 rfl (we_bin (we_var 1 rfl (we_var 3 rfl (od_I op_fdivW hw ⟨_, _, _, rfl, T.c_Ratio, T.n_Ratio_n, (fun z => nomatch z), by decide, ?_⟩))))))
        refine wss_one (ws_fld 0 rfl (we_bin (we_var 2 rfl (we_var 3 rfl (od_I op_fdivW hw ⟨_, _, _, rfl, T.c_Ratio, T.n_Ratio_d, (by decide +kernel), by decide, _, _, rfl, ?_⟩)))))
        rw [← p1, ← p2]
        exact hp

theorem ratF (T : Tx K mg) : RatF K := ⟨T.c_Ratio, T.n_Ratio_n, T.n_Ratio_d⟩
theorem resF (T : Tx K mg) : ResF K := ⟨T.c_Residue, T.n_Residue_p, T.n_Residue_n⟩

/-! ### Ratio.__add__ -/

/-! ### Ratio.__sub__ -/

/-! ### Ratio.__mul__ -/

/-! ### Ratio.__neg__, inverse, over, is_zero, == -/
theorem sc_Ratio_is_zero : FnScope ["self"] ["self"] (defScope s_Ratio_is_zero) := ⟨rfl, rfl, rfl, by decide +kernel, rfl, by decide +kernel, by decide +kernel⟩
theorem ok_Ratio_is_zero {f : Addr} {fd : FuncData} (F : FnP K "is_zero" "Ratio.is_zero" s_Ratio_is_zero f fd) (T : Tx K mg) : FnOk P w K mg base (L2.CX P w) 1 f fd ["self"] (lift K (spZeroQ K)) := by
  refine def_ok F sc_Ratio_is_zero (fun ds P R h => ?_) (fun cdv A outer s0 H E ds Pd R hr hs => ?_)
  · obtain ⟨x, rfl, _⟩ := h
    rfl
  · have qf : RatF K := ratF T
    obtain ⟨x, rfl, hp⟩ := hs
    refine wss_one (ws_ret (we_cmp (we_qn qf (we_var 0 rfl ⟨_, rfl, we_int (od_eqI ?_)⟩))))
    have e : decide (x.num = 0) = decide (x = 0) := decide_eq_decide.mpr Rat.num_eq_zero
    rw [e]
    exact hp

/-! ### powered, of ints -/
theorem sc_powered : FnScope ["base", "k", "one", "result"] ["base", "k", "one"] (defScope s_powered) := ⟨rfl, rfl, rfl, by decide +kernel, rfl, by decide +kernel, by decide +kernel⟩

/-! ### digits_of, of ints below 10 ^ 64 -/
theorem sc_digits_of : FnScope ["n"] ["n"] (defScope s_digits_of) := ⟨rfl, rfl, rfl, by decide +kernel, rfl, by decide +kernel, by decide +kernel⟩
def spDig0 : DSp := fun ds P _ => ∃ n : Int, ds = [dI n] ∧ 0 ≤ n ∧ n.natAbs < 10 ^ 64 ∧ P (dS (toString n))
theorem ok0_digits_of {f : Addr} {fd : FuncData} (F : FnP K "digits_of" "digits_of" s_digits_of f fd) (T : Tx K mg) : FnOk P w K mg base (L2.CX P w) 1 f fd ["n"] (lift K spDig0) := by
  refine def_ok F sc_digits_of (fun ds P R h => ?_) (fun cdv A outer s0 H E ds Pd R hr hs => ?_)
  · obtain ⟨x, rfl, _⟩ := h
    rfl
  · obtain ⟨n, rfl, h0, hb, hp⟩ := hs
    refine wss_cons (ws_if (wt_cmp (we_var 0 rfl (we_int (od_lt ⟨_, rfl, fun t => ?_, fun t => ?_⟩)))))
    · exact absurd (of_decide_eq_true t) (by omega)
    · obtain ⟨tk, hm⟩ := T.i__PIECE
      refine wss_nil (wss_cons (ws_if (wt_cmp (we_var 0 rfl (we_glob (v := .int (10 ^ 64)) hm ⟨tk, rfl⟩ (od_lt ⟨_, rfl, fun t => ?_, fun t => ?_⟩))))))
      · refine wss_one (ws_ret (we_strI T.f_str (wa_cons (we_var 0 rfl (wa_nil ⟨n, rfl, log2_small (b := 1920) (Nat.lt_of_lt_of_le hb (by decide +kernel)) (by decide), hp⟩))))) 
      · exact absurd (of_decide_eq_false t) (by omega)
theorem ok_digits_of {f : Addr} {fd : FuncData} (F : FnP K "digits_of" "digits_of" s_digits_of f fd) (T : Tx K mg) (G : Fg P w K mg base "digits_of" 1 [] spDig0) : FnOk P w K mg base (L2.CX P w) 2 f fd ["n"] (lift K spDig) := by
  refine def_ok F sc_digits_of (fun ds P R h => ?_) (fun cdv A outer s0 H E ds Pd R hr hs => ?_)
  · obtain ⟨x, rfl, _⟩ := h
    rfl
  · obtain ⟨n, rfl, hb, hp⟩ := hs
    refine wss_cons (ws_if (wt_cmp (we_var 0 rfl (we_int (od_lt ⟨_, rfl, fun t => ?_, fun t => ?_⟩)))))
    · have hn : n < 0 := of_decide_eq_true t
      refine wss_one (ws_ret (we_js2 (we_str ⟨_, rfl, by decide +kernel, we_fmtS (we_call G hr takesB (wa_cons (we_neg (we_var 0 rfl ⟨_, rfl, wa_nil ⟨-n, rfl, by omega, by rw [Int.natAbs_neg]; exact hb, _, rfl, ?_, ?_⟩⟩))))⟩)))
      · exact Nat.le_trans (str_len (k := 64) (by omega) (by rw [Int.natAbs_neg]; exact hb) (by decide)) (by decide)
      · refine ⟨_, rfl, ?_, ?_⟩
        · have := str_len (n := -n) (k := 64) (by omega) (by rw [Int.natAbs_neg]; exact hb) (by decide)
          have e : (Str.ofString "-").length = 1 := by decide +kernel
          omega
        · rw [← str_neg hn]
          exact hp
    · have h0 : 0 ≤ n := by have := of_decide_eq_false t; omega
      obtain ⟨tk, hm⟩ := T.i__PIECE
      refine wss_nil (wss_cons (ws_if (wt_cmp (we_var 0 rfl (we_glob (v := .int (10 ^ 64)) hm ⟨tk, rfl⟩ (od_lt ⟨_, rfl, fun t => ?_, fun t => ?_⟩))))))
      · refine wss_one (ws_ret (we_strI T.f_str (wa_cons (we_var 0 rfl (wa_nil ⟨n, rfl, log2_small (b := 1920) (Nat.lt_of_lt_of_le hb (by decide +kernel)) (by decide), hp⟩)))))
      · exact absurd (of_decide_eq_false t) (by omega)

/-! ### Ratio.__str__ -/
theorem sc_Ratiou_stru : FnScope ["self", "below"] ["self"] (defScope s_Ratiou_stru) := ⟨rfl, rfl, rfl, by decide +kernel, rfl, by decide +kernel, by decide +kernel⟩
theorem str_len' {n : Int} {k : Nat} (h : n.natAbs < 10 ^ k) (hk : 0 < k) : (Str.ofString (toString n)).length ≤ k + 1 := by
  by_cases h0 : 0 ≤ n
  · exact Nat.le_trans (str_len h0 h hk) (by omega)
  · rw [str_neg (by omega), Str.length_append]
    have := str_len (n := -n) (k := k) (by omega) (by rw [Int.natAbs_neg]; exact h) hk
    have e : (Str.ofString "-").length = 1 := by decide +kernel
    omega
theorem ok_Ratiou_stru {f : Addr} {fd : FuncData} (F : FnP K "__str__" "Ratio.__str__" s_Ratiou_stru f fd) (T : Tx K mg) (G : Fg P w K mg base "digits_of" 2 [] spDig) : FnOk P w K mg base (L2.CX P w) 3 f fd ["self"] (lift K (spStrQ K)) := by
  refine def_ok F sc_Ratiou_stru (fun ds P R h => ?_) (fun cdv A outer s0 H E ds Pd R hr hs => ?_)
  · obtain ⟨x, rfl, _⟩ := h
    rfl
  · have qf : RatF K := ratF T
    obtain ⟨x, rfl, hn, hd, hp⟩ := hs
    have l1 := str_len' (n := x.num) (k := 64) hn (by decide)
    have l2 := str_len (n := (x.den : Int)) (k := 64) (by omega) (by simpa using hd) (by decide)
    have es : (Str.ofString "/").length = 1 := by decide +kernel
    have last : ∀ y : Str, y.length ≤ 70 → (x.den = 1 → y = "") → (x.den ≠ 1 → y = ("/" : Str) ++ (toString (x.den : Int) : Str)) →
        WSs (cxB P w K mg base ["self", "below"] "Ratio.__str__" (defScope s_Ratiou_stru) f cdv A outer s0 H E) (wxE E) (fun C _ => R C) ((defBody s_Ratiou_stru).drop 1) [.pu (ratD K x), .pu (dS y)] { nx := fun _ => Pd dN, rt := fun d _ => Pd d } := fun y hy y1 y2 => by
      refine wss_one (ws_ret (we_js2 (we_fmtS (we_call G hr takesB (wa_cons (we_qn qf (we_var 0 rfl ⟨_, rfl, wa_nil ⟨_, rfl, hn, _, rfl, by omega, _, rfl, by omega, we_fmtS (we_var 1 rfl ⟨_, rfl, by omega, _, rfl, by omega, ?_⟩)⟩⟩)))))))
      by_cases e : x.den = 1
      · rw [if_pos e] at hp
        rw [y1 e]
        have e0 : (Str.ofString (toString x.num) ++ ("" : Str)) = Str.ofString (toString x.num) := Str.append_empty _
        rw [e0]
        exact hp
      · rw [if_neg e] at hp
        rw [y2 e]
        exact hp
    refine wss_cons (ws_set 1 sc_Ratiou_stru.nd (we_ifx (wt_cmp (we_qd qf (we_var 0 rfl ⟨_, rfl, we_int (od_eqI ⟨_, rfl, fun t => ?_, fun t => ?_⟩)⟩)))))
    · have e : x.den = 1 := by have := of_decide_eq_true t; omega
      exact we_str (last _ (by decide +kernel) (fun _ => rfl) fun z => absurd e z)
    · have e : x.den ≠ 1 := fun z => of_decide_eq_false t (by omega)
      refine we_js2 (we_str ⟨_, rfl, by decide +kernel, we_fmtS (we_call G hr takesB (wa_cons (we_qd qf (we_var 0 rfl ⟨_, rfl, wa_nil ⟨_, rfl, by simpa using hd, _, rfl, by omega, _, rfl, by omega, ?_⟩⟩))))⟩)
      exact last _ (by rw [Str.length_append]; omega) (fun z => absurd z e) fun _ => rfl

/-! ### Ratio.power -/

/-! ### is_small_prime -/
theorem sc_is_small_prime : FnScope ["value"] ["value"] (defScope s_is_small_prime) := ⟨rfl, rfl, rfl, by decide +kernel, rfl, by decide +kernel, by decide +kernel⟩
theorem ok_is_small_prime {f : Addr} {fd : FuncData} (F : FnP K "is_small_prime" "is_small_prime" s_is_small_prime f fd) (T : Tx K mg) (G : Fg P w K mg base "is_integer" 1 [] (spIsInt K)) : FnOk P w K mg base (L2.CX P w) 2 f fd ["value"] (lift K (spPrime K)) := by
  refine def_ok F sc_is_small_prime (fun ds P R h => ?_) (fun cdv A outer s0 H E ds Pd R hr hs => ?_)
  · obtain ⟨x, rfl, _⟩ := h
    rfl
  · obtain ⟨d, rfl, ⟨i, rfl, hp⟩ | ⟨hn, hp⟩⟩ := hs
    · refine wss_one (ws_ret (we_and (we_call G hr takesB (wa_cons (we_var 0 rfl (wa_nil ⟨_, _, rfl, .int i, _, rfl, fun _ => ?_, fun z => nomatch z⟩))))))
      exact we_last (we_cmp (we_var 0 rfl (we_globT (ds := primes.map dI) T.g__PRIMES T.t__PRIMES (fun F => isl_v (primes.map V.int)) (od_inT hp))))
    · exact wss_one (ws_ret (we_and (we_call G hr takesB (wa_cons (we_var 0 rfl (wa_nil ⟨_, _, rfl, hn, _, rfl, (fun z => nomatch z), fun _ => hp⟩))))))

/-! ### Residue.__init__ -/
theorem sc_Residueu_initu : FnScope ["self", "p", "n"] ["self", "p", "n"] (defScope s_Residueu_initu) := ⟨rfl, rfl, rfl, by decide +kernel, rfl, by decide +kernel, by decide +kernel⟩
theorem ok_Residueu_initu {f : Addr} {fd : FuncData} (F : FnP K "__init__" "Residue.__init__" s_Residueu_initu f fd) (T : Tx K mg) (G1 : Fg P w K mg base "is_small_prime" 2 [] (spPrime K)) (G2 : Fg P w K mg base "is_integer" 1 [] (spIsInt K)) : FnOk P w K mg base (L2.CX P w) 3 f fd ["self", "p", "n"] (liftI K (He.ga K "Residue") (spMkR K)) := by
  refine init_ok F sc_Residueu_initu (fun ds P R h => ?_) (fun cdv A outer s0 H E ds Pd R hr hs => ?_)
  · obtain ⟨n, d, rfl, _⟩ := h
    rfl
  · have hr1 : Room 1 _ := hr.mono (by decide)
    have xm : ExcF K mg "Malformed" (He.ga K "Malformed") := ⟨T.g_Malformed, ⟨_, T.e_Malformed.1, rfl⟩, T.e_Malformed.2.1, T.e_Malformed.2.2.1, T.e_Malformed.2.2.2⟩
    obtain ⟨dp, dn, rfl, ⟨p, n, rfl, hpr, rfl, hp⟩ | ⟨⟨i, rfl, hi⟩ | hi, hp⟩ | ⟨p, rfl, hpr, hn, hp⟩⟩ := hs
    · refine wss_cons (ws_if (wt_not (wt_val (we_call G1 hr takesB (wa_cons (we_var 1 rfl (wa_nil ⟨_, rfl, .inl ⟨p, rfl, true, by rw [hpr], (fun z => nomatch z), fun _ => ?_⟩⟩)))))))
      refine wss_nil (wss_cons (ws_if (wt_not (wt_val (we_call G2 hr1 takesB (wa_cons (we_var 2 rfl (wa_nil ⟨_, _, rfl, .int n, true, rfl, (fun z => nomatch z), fun _ => ?_⟩))))))))
      refine wss_nil (wss_cons (ws_fld 0 rfl (we_var 1 rfl ⟨_, _, _, rfl, T.c_Residue, T.n_Residue_p, (fun z => nomatch z), by decide, ?_⟩)))
      have := isP_range hpr
      refine wss_one (ws_fld 0 rfl (we_bin (we_var 2 rfl (we_var 1 rfl (od_mod (by omega) ⟨_, _, _, rfl, T.c_Residue, T.n_Residue_n, (by decide +kernel), by decide, _, _, rfl, hp⟩)))))
    · refine wss_cons (ws_if (wt_not (wt_val (we_call G1 hr takesB (wa_cons (we_var 1 rfl (wa_nil ⟨_, rfl, .inl ⟨i, rfl, false, by rw [hi], fun _ => ?_, (fun z => nomatch z)⟩⟩)))))))
      exact wss_one (ws_raise xm rfl takesB hp)
    · refine wss_cons (ws_if (wt_not (wt_val (we_call G1 hr takesB (wa_cons (we_var 1 rfl (wa_nil ⟨_, rfl, .inr ⟨hi, false, rfl, fun _ => ?_, (fun z => nomatch z)⟩⟩)))))))
      exact wss_one (ws_raise xm rfl takesB hp)
    · refine wss_cons (ws_if (wt_not (wt_val (we_call G1 hr takesB (wa_cons (we_var 1 rfl (wa_nil ⟨_, rfl, .inl ⟨p, rfl, true, by rw [hpr], (fun z => nomatch z), fun _ => ?_⟩⟩)))))))
      refine wss_nil (wss_cons (ws_if (wt_not (wt_val (we_call G2 hr1 takesB (wa_cons (we_var 2 rfl (wa_nil ⟨_, _, rfl, hn, false, rfl, fun _ => ?_, (fun z => nomatch z)⟩))))))))
      exact wss_one (ws_raise xm rfl takesB hp)

/-! ### _require_like -/
theorem sc__require_like : FnScope ["one", "other"] ["one", "other"] (defScope s__require_like) := ⟨rfl, rfl, rfl, by decide +kernel, rfl, by decide +kernel, by decide +kernel⟩
theorem ok__require_like {f : Addr} {fd : FuncData} (F : FnP K "_require_like" "_require_like" s__require_like f fd) (T : Tx K mg) : FnOk P w K mg base (L2.CX P w) 1 f fd ["one", "other"] (lift K (spReqR K)) := by
  refine def_ok F sc__require_like (fun ds P R h => ?_) (fun cdv A outer s0 H E ds Pd R hr hs => ?_)
  · obtain ⟨p, n, d, rfl, _⟩ := h
    rfl
  · have rf : ResF K := resF T
    have xm : ExcF K mg "Malformed" (He.ga K "Malformed") := ⟨T.g_Malformed, ⟨_, T.e_Malformed.1, rfl⟩, T.e_Malformed.2.1, T.e_Malformed.2.2.1, T.e_Malformed.2.2.2⟩
    -- the other one is a number modulo q
    have good : ∀ p n q m : Int, (q = p → Pd dN) → (q ≠ p → R (He.ga K "Malformed")) → WSs (cxB P w K mg base ["one", "other"] "_require_like" (defScope s__require_like) f cdv A outer s0 H E) (wxE E) (fun C _ => R C) (defBody s__require_like) [.pu (resD K p n), .pu (resD K q m)] { nx := fun _ => Pd dN, rt := fun d _ => Pd d } := fun p n q m h1 h2 => by
      refine wss_one (ws_if (WW.wt (ww_or (wt_not (wt_val (we_isi T.f_isinstance ?_))))))
      refine wa_cons (we_var 1 rfl (wa_cons (we_cls T.g_Residue (wa_nil ⟨_, .ref _, _, _, true, rfl, .ins _ _ _, ?_, .own _, T.ki_Residue_Residue, true, rfl, fun _ => ?_, (fun z => nomatch z)⟩))))
      · intro C ks fs e
        cases e
        exact cix_residue T
      · refine ww_or1 (wt_cmp (we_rp rf (we_var 0 rfl ⟨_, _, rfl, we_rp rf (we_var 1 rfl ⟨_, _, rfl, od_neI ⟨_, rfl, fun t => ?_, fun t => ?_⟩⟩)⟩)))
        · have e : ¬ p = q := fun z => by rw [decide_eq_true z] at t; cases t
          exact wss_one (ws_raise xm rfl takesB (h2 fun z => e z.symm))
        · have e : p = q := by
            by_cases z : p = q
            · exact z
            · rw [decide_eq_false z] at t; cases t
          exact wss_nil (h1 e.symm)
    obtain ⟨p, n, d, rfl, ⟨⟨m, rfl⟩, hp⟩ | ⟨⟨⟨t, ty, hk⟩, ci⟩ | ⟨q, m, rfl, hq⟩, hp⟩⟩ := hs
    · exact good p n p m (fun _ => hp) fun z => absurd rfl z
    · refine wss_one (ws_if (WW.wt (ww_or (wt_not (wt_val (we_isi T.f_isinstance ?_))))))
      refine wa_cons (we_var 1 rfl (wa_cons (we_cls T.g_Residue (wa_nil ⟨_, .ref _, _, _, false, rfl, ty, ci, .own _, hk, false, rfl, (fun z => nomatch z), fun _ => ⟨fun _ => ?_, (fun z => nomatch z)⟩⟩))))
      exact wss_one (ws_raise xm rfl takesB hp)
    · exact good p n q m (fun z => absurd z hq) fun _ => hp

/-! ### Residue.__add__ -/

/-! ### Residue.__sub__ -/

/-! ### Residue.__mul__ -/
theorem sc_Residueu_mulu : FnScope ["self", "other"] ["self", "other"] (defScope s_Residueu_mulu) := ⟨rfl, rfl, rfl, by decide +kernel, rfl, by decide +kernel, by decide +kernel⟩
theorem ok_Residueu_mulu {f : Addr} {fd : FuncData} (F : FnP K "__mul__" "Residue.__mul__" s_Residueu_mulu f fd) (T : Tx K mg) (G1 : Fg P w K mg base "_require_like" 1 [] (spReqR K)) (G2 : Kg P w K mg base "Residue" (He.ga K "Residue") 3 [] (spMkR K)) : FnOk P w K mg base (L2.CX P w) 5 f fd ["self", "other"] (lift K (spOpR K fun x y => x * y)) := by
  refine def_ok F sc_Residueu_mulu (fun ds P R h => ?_) (fun cdv A outer s0 H E ds Pd R hr hs => ?_)
  · obtain ⟨p, n, d, rfl, _⟩ := h
    rfl
  · have rf : ResF K := resF T
    have hr1 : Room 1 _ := hr.mono (by decide)
    obtain ⟨p, n, d, rfl, b1, ⟨m, rfl, b2, hp⟩ | ⟨hn, hp⟩⟩ := hs
    · refine wss_cons (ws_expr (we_call G1 hr1 takesB (wa_cons (we_var 0 rfl (wa_cons (we_var 1 rfl (wa_nil ⟨p, n, _, rfl, .inl ⟨⟨m, rfl⟩, ?_⟩⟩)))))))
      refine wss_one (ws_ret (we_make G2 hr takesB (wa_cons (we_rp rf (we_var 0 rfl ⟨_, _, rfl, ?_⟩)))))
      refine wa_cons (we_bin (we_rn rf (we_var 0 rfl ⟨_, _, rfl, we_rn rf (we_var 1 rfl ⟨_, _, rfl, ?_⟩)⟩)))
      exact od_mulB (.inl ⟨by have := b1.lo; omega, by have := b1.small; omega⟩) (wa_nil ⟨_, _, rfl, .inl ⟨p, _, rfl, b1.pr, rfl, hp⟩⟩)
    · exact wss_cons (ws_expr (we_call G1 hr1 takesB (wa_cons (we_var 0 rfl (wa_cons (we_var 1 rfl (wa_nil ⟨p, n, _, rfl, .inr ⟨hn, hp⟩⟩)))))))

/-! ### Residue.__neg__ -/

/-! ### Residue.__eq__ -/

/-! ### Residue.__str__ -/
theorem sc_Residueu_stru : FnScope ["self"] ["self"] (defScope s_Residueu_stru) := ⟨rfl, rfl, rfl, by decide +kernel, rfl, by decide +kernel, by decide +kernel⟩
theorem ok_Residueu_stru {f : Addr} {fd : FuncData} (F : FnP K "__str__" "Residue.__str__" s_Residueu_stru f fd) (T : Tx K mg) : FnOk P w K mg base (L2.CX P w) 1 f fd ["self"] (lift K (spStrR K)) := by
  refine def_ok F sc_Residueu_stru (fun ds P R h => ?_) (fun cdv A outer s0 H E ds Pd R hr hs => ?_)
  · obtain ⟨p, n, rfl, _⟩ := h
    rfl
  · have rf : ResF K := resF T
    obtain ⟨p, n, rfl, b1, hp⟩ := hs
    have := b1.small
    have := b1.lo
    exact wss_one (ws_ret (we_strI T.f_str (wa_cons (we_rn rf (we_var 0 rfl ⟨_, _, rfl, wa_nil ⟨n, rfl, log2_small (b := 1920) (Nat.lt_of_lt_of_le (show n.natAbs < 31 by omega) (by decide +kernel)) (by decide), hp⟩⟩)))))

/-! ### Residue.is_zero -/
theorem sc_Residue_is_zero : FnScope ["self"] ["self"] (defScope s_Residue_is_zero) := ⟨rfl, rfl, rfl, by decide +kernel, rfl, by decide +kernel, by decide +kernel⟩
theorem ok_Residue_is_zero {f : Addr} {fd : FuncData} (F : FnP K "is_zero" "Residue.is_zero" s_Residue_is_zero f fd) (T : Tx K mg) : FnOk P w K mg base (L2.CX P w) 1 f fd ["self"] (lift K (spZeroR K)) := by
  refine def_ok F sc_Residue_is_zero (fun ds P R h => ?_) (fun cdv A outer s0 H E ds Pd R hr hs => ?_)
  · obtain ⟨p, n, rfl, _⟩ := h
    rfl
  · have rf : ResF K := resF T
    obtain ⟨p, n, rfl, hp⟩ := hs
    exact wss_one (ws_ret (we_cmp (we_rn rf (we_var 0 rfl ⟨_, _, rfl, we_int (od_eqI hp)⟩))))
end

section
variable {P : Program} {w : World} {K : PySem.W.Frag} {mg : Str → Option Value} {base : Heap}

/-! ### powered, of numbers modulo p -/
theorem one_mod {p : Int} (h : isP p = true) : 1 % p = 1 := Int.emod_eq_of_lt (by decide) (by have := isP_range h; omega)
theorem okR_powered {f : Addr} {fd : FuncData} (F : FnP K "powered" "powered" s_powered f fd) (T : Tx K mg) (Mm : Mg P w K mg base (He.ga K "Residue") "__mul__" 5 [] (spOpR K fun x y => x * y)) : FnOk P w K mg base (L2.CX P w) 6 f fd ["base", "k", "one"] (lift K (spPowRR K)) := by
  refine def_ok F sc_powered (fun ds P R h => ?_) (fun cdv A outer s0 H E ds Pd R hr hs => ?_)
  · obtain ⟨p, x, k, rfl, _⟩ := h
    rfl
  · obtain ⟨p, x, k, rfl, B, hp⟩ := hs
    have e1 : x ^ 1 % p = x := by rw [Int.pow_one]; exact B.self
    have e0 : x ^ 0 % p = 1 := by rw [Int.pow_zero]; exact one_mod B.pr
    refine wss_cons (ws_set 3 sc_powered.nd (we_var 2 rfl ?_))
    refine wss_cons (ws_while passB (fun m ρ => ∃ i j : Nat, ρ = [.pu (resD K p (x ^ i % p)), .pu (dI m), .pu (resD K p 1), .pu (resD K p (x ^ j % p))] ∧ j + i * m = k) ⟨k, 1, 0, by rw [e1, e0]; rfl, by omega⟩ ?_)
    rintro m ρ ⟨i, j, rfl, e⟩
    refine wt_cmp (we_var 1 rfl (we_int (od_gt ⟨_, rfl, fun t => ?_, fun t => ?_⟩)))
    · have hm : 0 < m := by have := of_decide_eq_true t; omega
      refine wss_join (fun ρ => ∃ j' : Nat, ρ = [.pu (resD K p (x ^ i % p)), .pu (dI m), .pu (resD K p 1), .pu (resD K p (x ^ j' % p))] ∧ j' + 2 * i * (m / 2) = k) (ws_if (wt_cmp (we_bin (we_var 1 rfl (we_int (od_mod (by decide) (we_int (od_eqI ⟨_, rfl, fun t2 => ?_, fun t2 => ?_⟩)))))))) ?_
      · have h2 : m % 2 = 1 := by have := of_decide_eq_true t2; omega
        have q2 := mul_half1 i h2
        refine wss_one (ws_set 3 sc_powered.nd (we_bin (we_var 3 rfl (we_var 0 rfl (od_own (op := .Mult) Mm T.sf_Residue hr takesB ⟨p, _, _, rfl, RB.mod B.pr _, .inl ⟨_, rfl, RB.mod B.pr _, ?_⟩⟩)))))
        rw [pow_mod_mul]
        exact ⟨j + i, rfl, by omega⟩
      · have h2 : m % 2 = 0 := by have := of_decide_eq_false t2; omega
        have q2 := mul_half0 i h2
        exact wss_nil ⟨j, rfl, by omega⟩
      · rintro ρ ⟨j', rfl, e'⟩
        refine wss_cons (ws_set 1 sc_powered.nd (we_bin (we_var 1 rfl (we_int (od_div ⟨by decide, by decide⟩ ?_)))))
        rw [ediv_two]
        refine wss_one (ws_if (wt_cmp (we_var 1 rfl (we_int (od_gt ⟨_, rfl, fun t2 => ?_, fun t2 => ?_⟩)))))
        · refine wss_one (ws_set 0 sc_powered.nd (we_bin (we_var 0 rfl (we_var 0 rfl (od_own (op := .Mult) Mm T.sf_Residue hr takesB ⟨p, _, _, rfl, RB.mod B.pr _, .inl ⟨_, rfl, RB.mod B.pr _, ?_⟩⟩)))))
          rw [pow_mod_mul]
          exact ⟨m / 2, by omega, i + i, j', rfl, by rw [← Nat.two_mul]; exact e'⟩
        · have h2 : m / 2 = 0 := by have := of_decide_eq_false t2; omega
          exact wss_nil ⟨m / 2, by omega, i, j', rfl, by rw [h2] at e' ⊢; omega⟩
    · have hm : m = 0 := by have := of_decide_eq_false t; omega
      subst hm
      refine wss_one (ws_ret (we_var 3 rfl ?_))
      have ej : j = k := by omega
      rw [ej]
      exact hp

/-! ### Residue.power, inverse, over -/
theorem sc_Residue_power : FnScope ["self", "k"] ["self", "k"] (defScope s_Residue_power) := ⟨rfl, rfl, rfl, by decide +kernel, rfl, by decide +kernel, by decide +kernel⟩
theorem ok0_Residue_power {f : Addr} {fd : FuncData} (F : FnP K "power" "Residue.power" s_Residue_power f fd) (T : Tx K mg) (G1 : Fg P w K mg base "powered" 6 [] (spPowRR K)) (G2 : Kg P w K mg base "Residue" (He.ga K "Residue") 3 [] (spMkR K)) : FnOk P w K mg base (L2.CX P w) 7 f fd ["self", "k"] (lift K (spPowR0 K)) := by
  refine def_ok F sc_Residue_power (fun ds P R h => ?_) (fun cdv A outer s0 H E ds Pd R hr hs => ?_)
  · obtain ⟨p, x, k, rfl, _⟩ := h
    rfl
  · have rf : ResF K := resF T
    obtain ⟨p, x, k, rfl, B, hp⟩ := hs
    refine wss_cons (ws_if (wt_cmp (we_var 1 rfl (we_int (od_lt ⟨_, rfl, fun t => ?_, fun t => wss_nil ?_⟩)))))
    · exact absurd (of_decide_eq_true t) (by omega)
    · refine wss_one (ws_ret (we_call G1 hr takesB (wa_cons (we_var 0 rfl (wa_cons (we_var 1 rfl (wa_cons ?_)))))))
      refine we_make G2 (hr.mono (by decide)) takesB (wa_cons (we_rp rf (we_var 0 rfl ⟨_, _, rfl, wa_cons (we_int (wa_nil ⟨_, _, rfl, .inl ⟨p, 1, rfl, B.pr, rfl, wa_nil ⟨p, x, k, ?_, B, hp⟩⟩⟩))⟩)))
      rw [one_mod B.pr]
      rfl
theorem sc_Residue_inverse : FnScope ["self"] ["self"] (defScope s_Residue_inverse) := ⟨rfl, rfl, rfl, by decide +kernel, rfl, by decide +kernel, by decide +kernel⟩
theorem ok_Residue_inverse {f : Addr} {fd : FuncData} (F : FnP K "inverse" "Residue.inverse" s_Residue_inverse f fd) (T : Tx K mg) (G1 : Mg P w K mg base (He.ga K "Residue") "power" 7 [] (spPowR0 K)) : FnOk P w K mg base (L2.CX P w) 8 f fd ["self"] (lift K (spInvR K)) := by
  refine def_ok F sc_Residue_inverse (fun ds P R h => ?_) (fun cdv A outer s0 H E ds Pd R hr hs => ?_)
  · obtain ⟨p, n, rfl, _⟩ := h
    rfl
  · have rf : ResF K := resF T
    obtain ⟨p, n, rfl, B, hz, hp⟩ := hs
    have hb := B.small
    refine wss_cons (ws_if (wt_cmp (we_rn rf (we_var 0 rfl ⟨_, _, rfl, we_int (od_eqI ⟨_, rfl, fun t => ?_, fun t => wss_nil ?_⟩)⟩))))
    · exact wss_one (ws_raise ⟨T.g_ZeroDivisor, ⟨_, T.e_ZeroDivisor.1, rfl⟩, T.e_ZeroDivisor.2.1, T.e_ZeroDivisor.2.2.1, T.e_ZeroDivisor.2.2.2⟩ rfl takesB (hz (of_decide_eq_true t)))
    · refine wss_one (ws_ret (we_meth hr takesB (we_var 0 rfl ⟨_, _, _, [], _, rfl, T.c_Residue, G1, by decide +kernel, ?_⟩)))
      refine wa_cons (we_bin (we_rp rf (we_var 0 rfl ⟨_, _, rfl, we_int (od_sub (wa_nil ⟨p, n, (p - 2).toNat, ?_, B, hp (of_decide_eq_false t)⟩))⟩)))
      have e : (((p - 2).toNat : Nat) : Int) = p - 2 := Int.toNat_of_nonneg (by omega)
      rw [e]
      rfl
theorem sc_Residue_over : FnScope ["self", "b"] ["self", "b"] (defScope s_Residue_over) := ⟨rfl, rfl, rfl, by decide +kernel, rfl, by decide +kernel, by decide +kernel⟩
theorem ok_Residue_over {f : Addr} {fd : FuncData} (F : FnP K "over" "Residue.over" s_Residue_over f fd) (T : Tx K mg) (G1 : Fg P w K mg base "_require_like" 1 [] (spReqR K)) (G2 : Mg P w K mg base (He.ga K "Residue") "inverse" 8 [] (spInvR K)) (G3 : Mg P w K mg base (He.ga K "Residue") "__mul__" 5 [] (spOpR K fun x y => x * y)) : FnOk P w K mg base (L2.CX P w) 9 f fd ["self", "b"] (lift K (spOverR K)) := by
  refine def_ok F sc_Residue_over (fun ds P R h => ?_) (fun cdv A outer s0 H E ds Pd R hr hs => ?_)
  · obtain ⟨p, n, d, rfl, _⟩ := h
    rfl
  · have rf : ResF K := resF T
    have hr1 : Room 1 _ := hr.mono (by decide)
    obtain ⟨p, n, d, rfl, B, ⟨m, rfl, B2, hz, hp⟩ | ⟨hn, hp⟩⟩ := hs
    · refine wss_cons (ws_expr (we_call G1 hr1 takesB (wa_cons (we_var 0 rfl (wa_cons (we_var 1 rfl (wa_nil ⟨p, n, _, rfl, .inl ⟨⟨m, rfl⟩, ?_⟩⟩)))))))
      refine wss_one (ws_ret (we_bin (we_var 0 rfl (we_meth0 hr takesB (we_var 1 rfl ⟨_, _, _, [], _, rfl, T.c_Residue, G2, by decide +kernel, p, m, rfl, B2, hz, fun hm => ?_⟩)))))
      exact od_own (op := .Mult) G3 T.sf_Residue (hr.mono (by decide)) takesB ⟨p, n, _, rfl, B, .inl ⟨_, rfl, RB.mod B.pr _, hp hm⟩⟩
    · exact wss_cons (ws_expr (we_call G1 hr1 takesB (wa_cons (we_var 0 rfl (wa_cons (we_var 1 rfl (wa_nil ⟨p, n, _, rfl, .inr ⟨hn, hp⟩⟩)))))))
end

section
variable {P : Program} {w : World} {K : PySem.W.Frag} {mg : Str → Option Value} {base : Heap}
theorem grF (T : Tx K mg) : GrF K := ⟨T.c_Ground, T.n_Ground_p⟩

/-! ### Ground.__init__ -/
theorem sc_Groundu_initu : FnScope ["self", "p"] ["self", "p"] (defScope s_Groundu_initu) := ⟨rfl, rfl, rfl, by decide +kernel, rfl, by decide +kernel, by decide +kernel⟩
theorem ok_Groundu_initu {f : Addr} {fd : FuncData} {dv : List V} (F : FunD K "__init__" "Ground.__init__" (defArgs s_Groundu_initu) (defBody s_Groundu_initu) (defScope s_Groundu_initu) dv [] f fd) (T : Tx K mg) (Gi : Fg P w K mg base "is_integer" 1 [] (spIsInt K)) (Gp : Fg P w K mg base "is_small_prime" 2 [] (spPrime K)) :
    FnOk P w K mg base (L2.CX P w) 3 f fd ["self", "p"] (liftI K (He.ga K "Ground") (spMkG K)) := by
  refine init_ok F sc_Groundu_initu (fun ds P R h => ?_) (fun cdv A outer s0 H E ds Pd R hr hs => ?_)
  · obtain ⟨d, rfl, _⟩ := h
    rfl
  · have hr1 : Room 1 (A.deeper (PyProof.Rows.envOfC "Ground.__init__" (defScope s_Groundu_initu) s0.heap.objs.size f cdv)) := hr.mono (by decide)
    obtain ⟨d, rfl, ⟨p, rfl, hg, hp⟩ | ⟨hn, hp⟩⟩ := hs
    · refine wss_join (fun ρ => ρ = [.ob (He.ga K "Ground") [] [], .pu (dI p)]) (ws_if (WW.wt (ww_and (wt_not (WW.wt (ww_and (wt_val (we_call Gi hr1 takesB (wa_cons (we_var 1 rfl (wa_nil ⟨_, true, rfl, .int p, _, rfl, fun _ => ?_, fun z => nomatch z⟩))))))))))) ?_
      · refine ww_and1 (wt_cmp (we_var 1 rfl (we_int (od_eqI ⟨_, rfl, fun t => ?_, fun t => ?_⟩))))
        · have h0 : p ≠ 0 := by simpa using t
          have hP : isP p = true := hg.resolve_left h0
          refine ww_and1 (wt_not (wt_val (we_call Gp hr takesB (wa_cons (we_var 1 rfl (wa_nil ⟨_, rfl, .inl ⟨p, rfl, _, rfl, fun t => ?_, fun t => wss_nil rfl⟩⟩))))))
          rw [hP] at t
          cases t
        · exact ⟨(fun z => nomatch z), fun _ => wss_nil rfl⟩
      · rintro ρ rfl
        exact wss_one (ws_fld 0 rfl (we_var 1 rfl ⟨_, _, _, rfl, T.c_Ground, T.n_Ground_p, (fun z => nomatch z), by decide, _, _, rfl, hp⟩))
    · have raise_ : WSs (cxB P w K mg base ["self", "p"] "Ground.__init__" (defScope s_Groundu_initu) f cdv A outer s0 H E) (wxE E) (fun C _ => R C) (match (defBody s_Groundu_initu).getD 0 (.Pass ⟨0, 0, 0, 0⟩) with | .If _ b _ _ => b | _ => []) [.ob (He.ga K "Ground") [] [], .pu d]
          { nx := fun ρ' => WSs (cxB P w K mg base ["self", "p"] "Ground.__init__" (defScope s_Groundu_initu) f cdv A outer s0 H E) (wxE E) (fun C _ => R C) ((defBody s_Groundu_initu).drop 1) ρ' { nx := fun ρ => ∃ ks es, ρ[0]? = some (.ob (He.ga K "Ground") ks es) ∧ Pd (.ins (He.ga K "Ground") ks es), rt := fun _ _ => False }, rt := fun _ _ => False } :=
        wss_one (ws_raise ⟨T.g_Malformed, ⟨_, T.e_Malformed.1, rfl⟩, T.e_Malformed.2.1, T.e_Malformed.2.2.1, T.e_Malformed.2.2.2⟩ rfl takesB hp)
      rcases hn with ⟨i, rfl, h0, hP⟩ | hI
      · refine wss_cons (ws_if (WW.wt (ww_and (wt_not (WW.wt (ww_and (wt_val (we_call Gi hr1 takesB (wa_cons (we_var 1 rfl (wa_nil ⟨_, true, rfl, .int i, _, rfl, fun _ => ?_, fun z => nomatch z⟩)))))))))))
        refine ww_and1 (wt_cmp (we_var 1 rfl (we_int (od_eqI ⟨_, rfl, fun t => ?_, fun t => absurd t (by simpa using h0)⟩))))
        refine ww_and1 (wt_not (wt_val (we_call Gp hr takesB (wa_cons (we_var 1 rfl (wa_nil ⟨_, rfl, .inl ⟨i, rfl, _, rfl, fun t => raise_, fun t => ?_⟩⟩))))))
        rw [hP] at t
        cases t
      · refine wss_cons (ws_if (WW.wt (ww_and (wt_not (WW.wt (ww_and (wt_val (we_call Gi hr1 takesB (wa_cons (we_var 1 rfl (wa_nil ⟨_, false, rfl, hI, _, rfl, (fun z => nomatch z), fun _ => ⟨fun _ => ?_, fun z => nomatch z⟩⟩)))))))))))
        exact ww_and1 (wt_not (wt_val (we_call Gp hr takesB (wa_cons (we_var 1 rfl (wa_nil ⟨_, rfl, .inr ⟨hI, _, rfl, fun t => raise_, fun t => nomatch t⟩⟩))))))

/-! ### Ground.number -/
theorem sc_Ground_number : FnScope ["self", "n", "d", "number"] ["self", "n", "d"] (defScope s_Ground_number) := ⟨rfl, rfl, rfl, by decide +kernel, rfl, by decide +kernel, by decide +kernel⟩
theorem ok_Ground_number {f : Addr} {fd : FuncData} {dv : List V} (F : FunD K "number" "Ground.number" (defArgs s_Ground_number) (defBody s_Ground_number) (defScope s_Ground_number) dv [] f fd) (T : Tx K mg) (K2 : Kg P w K mg base "Ratio" (He.ga K "Ratio") 1 [] (spMkQ K)) (KR : Kg P w K mg base "Residue" (He.ga K "Residue") 3 [] (spMkR K)) (Mo : Mg P w K mg base (He.ga K "Residue") "over" 9 [] (spOverR K)) :
    FnOk P w K mg base (L2.CX P w) 10 f fd ["self", "n", "d"] (lift K (spNum K)) := by
  refine def_ok F sc_Ground_number (fun ds P R h => ?_) (fun cdv A outer s0 H E ds Pd R hr hs => ?_)
  · obtain ⟨p, n, d, rfl, _⟩ := h
    rfl
  · have gf : GrF K := grF T
    have nd := sc_Ground_number.nd
    have hr2 : Room 2 (A.deeper (PyProof.Rows.envOfC "Ground.number" (defScope s_Ground_number) s0.heap.objs.size f cdv)) := hr.mono (by decide)
    have hr4 : Room 4 (A.deeper (PyProof.Rows.envOfC "Ground.number" (defScope s_Ground_number) s0.heap.objs.size f cdv)) := hr.mono (by decide)
    obtain ⟨p, n, d, rfl, ⟨rfl, hz, hp⟩ | ⟨hP, h1, h2, h3⟩⟩ := hs
    · refine wss_cons (ws_if (wt_cmp (we_gp gf (we_var 0 rfl ⟨_, rfl, we_int (od_eqI ⟨_, rfl, fun t => ?_, fun t => nomatch t⟩)⟩))))
      exact wss_one (ws_ret (we_make K2 hr2 takesB (wa_cons (we_var 1 rfl (wa_cons (we_var 2 rfl (wa_nil ⟨n, d, rfl, hz, hp⟩)))))))
    · have hr0 := isP_range hP
      refine wss_cons (ws_if (wt_cmp (we_gp gf (we_var 0 rfl ⟨_, rfl, we_int (od_eqI ⟨_, rfl, fun t => absurd (of_decide_eq_true t) (by omega), fun t => wss_nil ?_⟩)⟩))))
      refine wss_cons (ws_set 3 nd (we_make KR hr4 takesB (wa_cons (we_gp gf (we_var 0 rfl ⟨p, rfl, wa_cons (we_var 1 rfl (wa_nil ⟨_, _, rfl, .inl ⟨p, n, rfl, hP, rfl, ?_⟩⟩))⟩)))))
      refine wss_one (ws_ret (we_ifx (wt_cmp (we_var 2 rfl (we_int (od_eqI ⟨_, rfl, fun t => we_var 3 rfl (h1 (of_decide_eq_true t)), fun t => ?_⟩))))))
      have hd : d ≠ 1 := of_decide_eq_false t
      refine we_meth hr takesB (we_var 3 rfl ⟨_, _, _, [], _, rfl, T.c_Residue, Mo, by decide +kernel, wa_cons ?_⟩)
      refine we_make KR hr4 takesB (wa_cons (we_gp gf (we_var 0 rfl ⟨p, rfl, wa_cons (we_var 2 rfl (wa_nil ⟨_, _, rfl, .inl ⟨p, d, rfl, hP, rfl, ?_⟩⟩))⟩)))
      exact wa_nil ⟨p, n % p, _, rfl, RB.mod hP n, .inl ⟨d % p, rfl, RB.mod hP d, h2 hd, h3 hd⟩⟩

/-! ### Ground.is_member -/
theorem sc_Ground_is_member : FnScope ["self", "value"] ["self", "value"] (defScope s_Ground_is_member) := ⟨rfl, rfl, rfl, by decide +kernel, rfl, by decide +kernel, by decide +kernel⟩
theorem ok_Ground_is_member {f : Addr} {fd : FuncData} (F : FnP K "is_member" "Ground.is_member" s_Ground_is_member f fd) (T : Tx K mg) : FnOk P w K mg base (L2.CX P w) 1 f fd ["self", "value"] (lift K (spMem K)) := by
  refine def_ok F sc_Ground_is_member (fun ds P R h => ?_) (fun cdv A outer s0 H E ds Pd R hr hs => ?_)
  · obtain ⟨p, d, rfl, _⟩ := h
    rfl
  · have gf : GrF K := grF T
    have rf : ResF K := resF T
    obtain ⟨p, d, rfl, ⟨⟨rfl, q, rfl⟩ | ⟨hP, n, rfl, B⟩, hp⟩ | ⟨⟨rfl, ⟨t, ty, hk⟩, ci⟩ | ⟨hP, hb⟩, hp⟩⟩ := hs
    · refine wss_cons (ws_if (wt_cmp (we_gp gf (we_var 0 rfl ⟨_, rfl, we_int (od_eqI ⟨_, rfl, fun t => ?_, fun t => nomatch t⟩)⟩))))
      refine wss_one (ws_ret (we_isi T.f_isinstance (wa_cons (we_var 1 rfl (wa_cons (we_cls T.g_Ratio (wa_nil ⟨_, .ref _, _, _, true, rfl, .ins _ _ _, ?_, .own _, T.ki_Ratio_Ratio, hp⟩)))))))
      intro C ks fs e
      cases e
      exact cix_ratio T
    · have hr0 := isP_range hP
      refine wss_cons (ws_if (wt_cmp (we_gp gf (we_var 0 rfl ⟨_, rfl, we_int (od_eqI ⟨_, rfl, fun t => absurd (of_decide_eq_true t) (by omega), fun t => wss_nil ?_⟩)⟩))))
      refine wss_one (ws_ret (we_and (we_isi T.f_isinstance (wa_cons (we_var 1 rfl (wa_cons (we_cls T.g_Residue (wa_nil ⟨_, .ref _, _, _, true, rfl, .ins _ _ _, ?_, .own _, T.ki_Residue_Residue, true, rfl, fun _ => ?_, (fun z => nomatch z)⟩))))))))
      · intro C ks fs e
        cases e
        exact cix_residue T
      · refine we_last (we_cmp (we_rp rf (we_var 1 rfl ⟨p, n, rfl, we_gp gf (we_var 0 rfl ⟨p, rfl, od_eqI ?_⟩)⟩)))
        rw [decide_eq_true rfl]
        exact hp
    · refine wss_cons (ws_if (wt_cmp (we_gp gf (we_var 0 rfl ⟨_, rfl, we_int (od_eqI ⟨_, rfl, fun t => ?_, fun t => nomatch t⟩)⟩))))
      exact wss_one (ws_ret (we_isi T.f_isinstance (wa_cons (we_var 1 rfl (wa_cons (we_cls T.g_Ratio (wa_nil ⟨_, .ref _, _, _, false, rfl, ty, ci, .own _, hk, hp⟩)))))))
    · have hr0 := isP_range hP
      refine wss_cons (ws_if (wt_cmp (we_gp gf (we_var 0 rfl ⟨_, rfl, we_int (od_eqI ⟨_, rfl, fun t => absurd (of_decide_eq_true t) (by omega), fun t => wss_nil ?_⟩)⟩))))
      rcases hb with ⟨⟨t, ty, hk⟩, ci⟩ | ⟨q, m, rfl, hq⟩
      · exact wss_one (ws_ret (we_and (we_isi T.f_isinstance (wa_cons (we_var 1 rfl (wa_cons (we_cls T.g_Residue (wa_nil ⟨_, .ref _, _, _, false, rfl, ty, ci, .own _, hk, false, rfl, (fun z => nomatch z), fun _ => hp⟩))))))))
      · refine wss_one (ws_ret (we_and (we_isi T.f_isinstance (wa_cons (we_var 1 rfl (wa_cons (we_cls T.g_Residue (wa_nil ⟨_, .ref _, _, _, true, rfl, .ins _ _ _, ?_, .own _, T.ki_Residue_Residue, true, rfl, fun _ => ?_, (fun z => nomatch z)⟩))))))))
        · intro C ks fs e
          cases e
          exact cix_residue T
        · refine we_last (we_cmp (we_rp rf (we_var 1 rfl ⟨q, m, rfl, we_gp gf (we_var 0 rfl ⟨p, rfl, od_eqI ?_⟩)⟩)))
          rw [decide_eq_false hq]
          exact hp

/-! ### taken -/
theorem sc_taken : FnScope ["ground", "item"] ["ground", "item"] (defScope s_taken) := ⟨rfl, rfl, rfl, by decide +kernel, rfl, by decide +kernel, by decide +kernel⟩
theorem ok_taken {f : Addr} {fd : FuncData} (F : FnP K "taken" "taken" s_taken f fd) (T : Tx K mg) (Mm : Mg P w K mg base (He.ga K "Ground") "is_member" 1 [] (spMem K)) (Gi : Fg P w K mg base "is_integer" 1 [] (spIsInt K)) (Mn : Mg P w K mg base (He.ga K "Ground") "number" 10 [.int 1] (spNum K)) :
    FnOk P w K mg base (L2.CX P w) 11 f fd ["ground", "item"] (lift K (spTaken K)) := by
  refine def_ok F sc_taken (fun ds P R h => ?_) (fun cdv A outer s0 H E ds Pd R hr hs => ?_)
  · obtain ⟨p, d, rfl, _⟩ := h
    rfl
  · have hr1 : Room 1 (A.deeper (PyProof.Rows.envOfC "taken" (defScope s_taken) s0.heap.objs.size f cdv)) := hr.mono (by decide)
    obtain ⟨p, d, rfl, ⟨hm, hp⟩ | ⟨n, rfl, hm, hb, hp⟩ | ⟨hm, hi, hp⟩⟩ := hs
    · refine wss_cons (ws_if (wt_val (we_meth hr1 takesB (we_var 0 rfl ⟨_, _, _, [], _, rfl, T.c_Ground, Mm, by decide +kernel, wa_cons (we_var 1 rfl (wa_nil ⟨p, d, rfl, .inl ⟨hm, _, rfl, fun _ => ?_, fun z => nomatch z⟩⟩))⟩))))
      exact wss_one (ws_ret (we_var 1 rfl hp))
    · refine wss_cons (ws_if (wt_val (we_meth hr1 takesB (we_var 0 rfl ⟨_, _, _, [], _, rfl, T.c_Ground, Mm, by decide +kernel, wa_cons (we_var 1 rfl (wa_nil ⟨p, _, rfl, .inr ⟨hm, _, rfl, (fun z => nomatch z), fun _ => wss_nil ?_⟩⟩))⟩))))
      refine wss_cons (ws_if (wt_val (we_call Gi hr1 takesB (wa_cons (we_var 1 rfl (wa_nil ⟨_, true, rfl, .int n, _, rfl, fun _ => ?_, fun z => nomatch z⟩))))))
      refine wss_one (ws_ret (we_meth hr takesB (we_var 0 rfl ⟨_, _, _, [.int 1], _, rfl, T.c_Ground, Mn, by decide +kernel, wa_cons (we_var 1 rfl (wa_nil ⟨p, n, 1, rfl, ?_⟩))⟩)))
      unfold intN at hp
      rcases hm with ⟨rfl, _⟩ | ⟨hP, _⟩
      · rw [if_pos rfl] at hp
        exact .inl ⟨rfl, fun z => absurd z (by decide), fun _ => ⟨hb, small_b (m := 1) (by decide) (by decide) (by decide), fun z => absurd z (by decide), hp⟩⟩
      · have hr0 := isP_range hP
        rw [if_neg (by omega)] at hp
        exact .inr ⟨hP, fun _ => hp, fun z => absurd rfl z, fun z => absurd rfl z⟩
    · refine wss_cons (ws_if (wt_val (we_meth hr1 takesB (we_var 0 rfl ⟨_, _, _, [], _, rfl, T.c_Ground, Mm, by decide +kernel, wa_cons (we_var 1 rfl (wa_nil ⟨p, _, rfl, .inr ⟨hm, _, rfl, (fun z => nomatch z), fun _ => wss_nil ?_⟩⟩))⟩))))
      refine wss_cons (ws_if (wt_val (we_call Gi hr1 takesB (wa_cons (we_var 1 rfl (wa_nil ⟨_, false, rfl, hi, _, rfl, (fun z => nomatch z), fun _ => wss_nil ?_⟩))))))
      exact wss_one (ws_raise ⟨T.g_Malformed, ⟨_, T.e_Malformed.1, rfl⟩, T.e_Malformed.2.1, T.e_Malformed.2.2.1, T.e_Malformed.2.2.2⟩ rfl takesB hp)
end

section
variable {P : Program} {w : World} {K : PySem.W.Frag} {mg : Str → Option Value} {base : Heap}
theorem poF (T : Tx K mg) : PoF K := ⟨T.c_Poly, T.n_Poly_ground, T.n_Poly_row⟩

/-! ### Poly.__init__, of rows that are taken -/
abbrev N_Polyu_initu : List Str := ["self", "ground", "row", "numbers", "item"]
theorem sc_Polyu_initu : FnScope N_Polyu_initu ["self", "ground", "row"] (defScope s_Polyu_initu) := ⟨rfl, rfl, rfl, by decide +kernel, rfl, by decide +kernel, by decide +kernel⟩
theorem ok_Polyu_initu {f : Addr} {fd : FuncData} (F : FnP K "__init__" "Poly.__init__" s_Polyu_initu f fd) (T : Tx K mg) (Gt : Fg P w K mg base "taken" 11 [] (spTaken K)) (Zq : Mg P w K mg base (He.ga K "Ratio") "is_zero" 1 [] (spZeroQ K)) (Zr : Mg P w K mg base (He.ga K "Residue") "is_zero" 1 [] (spZeroR K)) :
    FnOk P w K mg base (L2.CX P w) 12 f fd ["self", "ground", "row"] (liftI K (He.ga K "Poly") (spMkP K)) := by
  refine init_ok F sc_Polyu_initu (fun ds P R h => ?_) (fun cdv A outer s0 H E ds Pd R hr hs => ?_)
  · obtain ⟨p, xs, es, rs, rfl | rfl, _⟩ := h <;> rfl
  · have nd := sc_Polyu_initu.nd
    have hr1 : Room 1 (A.deeper (PyProof.Rows.envOfC "Poly.__init__" (defScope s_Polyu_initu) s0.heap.objs.size f cdv)) := hr.mono (by decide)
    obtain ⟨p, xs, es, rs, hds, hg, hle, tk, tr, hp⟩ := hs
    have el := tk.length
    -- what follows the comprehension
    have rest : ∀ dr : Dat, WSs (cxB P w K mg base N_Polyu_initu "Poly.__init__" (defScope s_Polyu_initu) f cdv A outer s0 H E) (wxE E) (fun C _ => R C) ((defBody s_Polyu_initu).drop 2) [.ob (He.ga K "Poly") [] [], .pu (grD K p), .pu dr, .ow false es, .no]
        { nx := fun ρ => ∃ ks es, ρ[0]? = some (.ob (He.ga K "Poly") ks es) ∧ Pd (.ins (He.ga K "Poly") ks es), rt := fun _ _ => False } := fun dr => by
      refine wss_cons (ws_while passB (fun m ρ => ∃ cur, ρ = [.ob (He.ga K "Poly") [] [], .pu (grD K p), .pu dr, .ow false cur, .no] ∧ Trim K cur rs ∧ cur.length = m) ⟨es.length, es, rfl, tr, rfl⟩ ?_)
      have fin : WSs (cxB P w K mg base N_Polyu_initu "Poly.__init__" (defScope s_Polyu_initu) f cdv A outer s0 H E) (wxE E) (fun C _ => R C) ((defBody s_Polyu_initu).drop 3) [.ob (He.ga K "Poly") [] [], .pu (grD K p), .pu dr, .ow false rs, .no]
        { nx := fun ρ => ∃ ks es, ρ[0]? = some (.ob (He.ga K "Poly") ks es) ∧ Pd (.ins (He.ga K "Poly") ks es), rt := fun _ _ => False } := by
        refine wss_cons (ws_fld 0 rfl (we_var 1 rfl ⟨_, _, _, rfl, T.c_Poly, T.n_Poly_ground, (fun z => nomatch z), by decide, ?_⟩))
        refine wss_frz 3 rfl ?_
        exact wss_one (ws_fld 0 rfl (we_tupL T.f_tuple (wa_cons (we_var 3 rfl (wa_nil ⟨rs, rfl, _, _, _, rfl, T.c_Poly, T.n_Poly_row, (by decide +kernel), by decide, _, _, rfl, hp⟩)))))
      rintro m ρ ⟨cur, rfl, tr, rfl⟩
      refine WW.wt (ww_and (wt_cmp (we_lenO 3 T.f_len rfl (we_int (od_gt ⟨_, rfl, fun t => ?_, fun t => ?_⟩)))))
      · have hl : 0 < cur.length := by have := of_decide_eq_true t; omega
        cases tr with
        | nil => exact absurd hl (by decide)
        | @stop ds d h =>
          have hget : (ds ++ [d])[(ds ++ [d]).length - 1]? = some d := by simp
          exact ww_and1 (wt_val (we_zero T.c_Ratio T.c_Residue Zq Zr hr1 takesB (we_ixO 3 rfl (we_neg (we_int ⟨1, rfl, rfl, d, .inr ⟨rfl, hget⟩, _, h, _, rfl, (fun z => nomatch z), fun _ => fin⟩)))))
        | @drop ds es d h t =>
          have hget : (ds ++ [d])[(ds ++ [d]).length - 1]? = some d := by simp
          refine ww_and1 (wt_val (we_zero T.c_Ratio T.c_Residue Zq Zr hr1 takesB (we_ixO 3 rfl (we_neg (we_int ⟨1, rfl, rfl, d, .inr ⟨rfl, hget⟩, _, h, _, rfl, fun _ => ?_, fun z => nomatch z⟩)))))
          exact wss_one (ws_expr (we_popE 3 rfl ⟨ds.length, by simp, ds, rfl, t, rfl⟩))
      · have hl : cur.length = 0 := by have := of_decide_eq_false t; omega
        have e0 := List.eq_nil_of_length_eq_zero hl
        subst e0
        have er : rs = [] := by
          generalize hc : ([] : List Dat) = cc at tr
          cases tr with
          | nil => rfl
          | stop h => simp at hc
          | drop h t => simp at hc
        subst er
        exact ⟨(fun z => nomatch z), fun _ => fin⟩
    have kl : PySem.W.kitAny K (.type "list") [.type "list", .type "tuple"] = some true := by
      have h1 : PySem.W.kitOne K (.type "list") (.type "list") = some true := kit_ty (by decide +kernel)
      unfold PySem.W.kitAny
      rw [h1]
    have kt : PySem.W.kitAny K (.type "tuple") [.type "list", .type "tuple"] = some true := by
      have h1 : PySem.W.kitOne K (.type "tuple") (.type "list") = some false := kit_ty (by decide +kernel)
      have h2 : PySem.W.kitOne K (.type "tuple") (.type "tuple") = some true := kit_ty (by decide +kernel)
      unfold PySem.W.kitAny
      rw [h1]
      show PySem.W.kitAny K (.type "tuple") [.type "tuple"] = some true
      unfold PySem.W.kitAny
      rw [h2]
    rcases hds with rfl | rfl
    · refine wss_cons (ws_if (wt_not (wt_val (we_isiLT T.f_isinstance T.f_list T.f_tuple (we_var 2 rfl ⟨_, true, .lst xs, (fun _ _ _ e => nomatch e), kl, true, rfl, (fun z => nomatch z), fun _ => wss_nil ?_⟩)))))
      refine wss_cons (ws_lcLO 3 (g := gName 4) [("item", 4)] nd rfl (blkOk_by (N := N_Polyu_initu) (sc := defScope s_Polyu_initu) (by decide +kernel)) (fun _ _ _ _ _ => pg_name (i := 4) nd rfl (Or.inl rfl)) (we_var 2 rfl ⟨xs, rfl, ⟨?_, by omega⟩⟩) (sw_true rfl rfl rfl (by decide +kernel)))
      refine ⟨fun j acc ρ => acc = es.take j ∧ ρ = [.ob (He.ga K "Poly") [] [], .pu (grD K p), .pu (.lst xs), .no, .no], ⟨rfl, rfl⟩, ?_, ?_⟩
      · rintro j d' acc ρ hd ⟨rfl, rfl⟩ _
        obtain ⟨e, he, hc⟩ := tk.get hd
        refine tb_name 4 (by decide) fun s H C cl fp => ?_
        have nx : es.take j ++ [e] = es.take (j + 1) := by rw [List.take_succ, he]; rfl
        refine we_call Gt hr takesW (wa_cons (we_var 1 rfl (wa_cons (we_var 4 rfl (wa_nil ⟨p, d', rfl, ?_⟩)))))
        rcases hc with ⟨h1, rfl⟩ | ⟨n, rfl, h1, h2, rfl⟩
        · exact .inl ⟨h1, nx, rfl⟩
        · exact .inr (.inl ⟨n, rfl, h1, h2, nx, rfl⟩)
      · rintro acc ρ ⟨rfl, rfl⟩
        rw [el, List.take_length]
        exact rest _
    · refine wss_cons (ws_if (wt_not (wt_val (we_isiLT T.f_isinstance T.f_list T.f_tuple (we_var 2 rfl ⟨_, true, .tup xs, (fun _ _ _ e => nomatch e), kt, true, rfl, (fun z => nomatch z), fun _ => wss_nil ?_⟩)))))
      refine wss_cons (ws_lcTO 3 (g := gName 4) [("item", 4)] nd rfl (blkOk_by (N := N_Polyu_initu) (sc := defScope s_Polyu_initu) (by decide +kernel)) (fun _ _ _ _ _ => pg_name (i := 4) nd rfl (Or.inl rfl)) (we_var 2 rfl ⟨xs, rfl, ⟨?_, by omega⟩⟩) (sw_true rfl rfl rfl (by decide +kernel)))
      refine ⟨fun j acc ρ => acc = es.take j ∧ ρ = [.ob (He.ga K "Poly") [] [], .pu (grD K p), .pu (.tup xs), .no, .no], ⟨rfl, rfl⟩, ?_, ?_⟩
      · rintro j d' acc ρ hd ⟨rfl, rfl⟩ _
        obtain ⟨e, he, hc⟩ := tk.get hd
        refine tb_name 4 (by decide) fun s H C cl fp => ?_
        have nx : es.take j ++ [e] = es.take (j + 1) := by rw [List.take_succ, he]; rfl
        refine we_call Gt hr takesW (wa_cons (we_var 1 rfl (wa_cons (we_var 4 rfl (wa_nil ⟨p, d', rfl, ?_⟩)))))
        rcases hc with ⟨h1, rfl⟩ | ⟨n, rfl, h1, h2, rfl⟩
        · exact .inl ⟨h1, nx, rfl⟩
        · exact .inr (.inl ⟨n, rfl, h1, h2, nx, rfl⟩)
      · rintro acc ρ ⟨rfl, rfl⟩
        rw [el, List.take_length]
        exact rest _

/-! ### Poly.is_zero, degree -/
theorem sc_Poly_is_zero : FnScope ["self"] ["self"] (defScope s_Poly_is_zero) := ⟨rfl, rfl, rfl, by decide +kernel, rfl, by decide +kernel, by decide +kernel⟩
theorem ok_Poly_is_zero {f : Addr} {fd : FuncData} (F : FnP K "is_zero" "Poly.is_zero" s_Poly_is_zero f fd) (T : Tx K mg) : FnOk P w K mg base (L2.CX P w) 1 f fd ["self"] (lift K (spPoZ K)) := by
  refine def_ok F sc_Poly_is_zero (fun ds P R h => ?_) (fun cdv A outer s0 H E ds Pd R hr hs => ?_)
  · obtain ⟨p, rs, rfl, _⟩ := h
    rfl
  · obtain ⟨p, rs, rfl, hp⟩ := hs
    refine wss_one (ws_ret (we_cmp (we_len T.f_len (wa_cons (we_pr (poF T) (we_var 0 rfl ⟨p, rs, rfl, wa_nil ⟨rs, .inr rfl, we_int (od_eqI ?_)⟩⟩))))))
    have e : decide ((rs.length : Int) = 0) = decide (rs.length = 0) := decide_eq_decide.mpr ⟨fun z => by omega, fun z => by omega⟩
    rw [e]
    exact hp
theorem sc_Poly_degree : FnScope ["self"] ["self"] (defScope s_Poly_degree) := ⟨rfl, rfl, rfl, by decide +kernel, rfl, by decide +kernel, by decide +kernel⟩
theorem ok_Poly_degree {f : Addr} {fd : FuncData} (F : FnP K "degree" "Poly.degree" s_Poly_degree f fd) (T : Tx K mg) : FnOk P w K mg base (L2.CX P w) 1 f fd ["self"] (lift K (spPoD K)) := by
  refine def_ok F sc_Poly_degree (fun ds P R h => ?_) (fun cdv A outer s0 H E ds Pd R hr hs => ?_)
  · obtain ⟨p, rs, rfl, _⟩ := h
    rfl
  · obtain ⟨p, rs, rfl, hp⟩ := hs
    exact wss_one (ws_ret (we_bin (we_len T.f_len (wa_cons (we_pr (poF T) (we_var 0 rfl ⟨p, rs, rfl, wa_nil ⟨rs, .inr rfl, we_int (od_sub hp)⟩⟩))))))

/-! ### _term -/
theorem sc__term : FnScope ["c", "k"] ["c", "k"] (defScope s__term) := ⟨rfl, rfl, rfl, by decide +kernel, rfl, by decide +kernel, by decide +kernel⟩
theorem ok__term {f : Addr} {fd : FuncData} (F : FnP K "_term" "_term" s__term f fd) (T : Tx K mg) (Sq : Mg P w K mg base (He.ga K "Ratio") "__str__" 3 [] (spStrQ K)) (Sr : Mg P w K mg base (He.ga K "Residue") "__str__" 1 [] (spStrR K)) : FnOk P w K mg base (L2.CX P w) 6 f fd ["c", "k"] (lift K (spTerm K)) := by
  refine def_ok F sc__term (fun ds P R h => ?_) (fun cdv A outer s0 H E ds Pd R hr hs => ?_)
  · obtain ⟨d, y, k, rfl, _⟩ := h
    rfl
  · obtain ⟨d, y, k, rfl, hd, hy, hk, hp⟩ := hs
    obtain ⟨l1, l2, l3, l4, _⟩ := len_lit1
    have lk := str_small hk
    have zk : (k : Int).natAbs.log2 < 1920 := log2_small (small_b (m := 100) (by simpa using hk) (by decide) (by decide)) (by decide)
    have str_ : ∀ {Q : PD} {q pos : Pos} {p1 : Pos}, Q (dS y) [.pu d, .pu (dI k)] → WE (cxB P w K mg base ["c", "k"] "_term" (defScope s__term) f cdv A outer s0 H E) (wxE E) (fun C _ => R C) (.Call (.Name "str" q) [.Name "c" p1] [] pos) [.pu d, .pu (dI k)] Q := fun {Q q pos p1} hQ => by
      cases hd with
      | q x h1 h2 => exact we_strO T.f_str hr takesB (wa_cons (we_var 0 rfl (wa_nil ⟨_, _, _, _, rfl, Sq, x, rfl, h1, h2, _, rfl, hQ⟩)))
      | r p n B => exact we_strO (l := 3) T.f_str hr takesB (wa_cons (we_var 0 rfl (wa_nil ⟨_, _, _, _, rfl, Sr.mono (by decide), p, n, rfl, B, _, rfl, hQ⟩)))
    unfold termT at hp
    refine wss_cons (ws_if (wt_cmp (we_var 1 rfl (we_int (od_eqI ⟨_, rfl, fun t => ?_, fun t => wss_nil ?_⟩)))))
    · have h0 : k = 0 := by have := of_decide_eq_true t; omega
      rw [if_pos h0] at hp
      refine wss_one (ws_ret (we_js (we_str ⟨_, rfl, ?_, we_fmtS (str_ ⟨y, rfl, by omega, y, rfl, ?_, we_str ⟨_, rfl, ?_, ?_⟩⟩)⟩)))
      · have l0 : Str.empty.length = 0 := rfl; omega
      · rw [Str.empty_append]; omega
      · rw [Str.empty_append, Str.length_append]; omega
      · rw [Str.empty_append]; exact hp
    · have h0 : k ≠ 0 := by have := of_decide_eq_false t; omega
      rw [if_neg h0] at hp
      refine wss_one (ws_ret (we_ifx (wt_cmp (we_var 1 rfl (we_int (od_eqI ⟨_, rfl, fun t => ?_, fun t => ?_⟩))))))
      · have h1 : k = 1 := by have := of_decide_eq_true t; omega
        rw [if_pos h1] at hp
        refine we_js (we_str ⟨_, rfl, ?_, we_fmtS (str_ ⟨y, rfl, by omega, y, rfl, ?_, we_str ⟨_, rfl, ?_, ?_⟩⟩)⟩)
        · have l0 : Str.empty.length = 0 := rfl; omega
        · rw [Str.empty_append]; omega
        · rw [Str.empty_append, Str.length_append]; omega
        · rw [Str.empty_append]; exact hp
      · have h1 : k ≠ 1 := by have := of_decide_eq_false t; omega
        rw [if_neg h1] at hp
        refine we_js (we_str ⟨_, rfl, ?_, we_fmtS (str_ ⟨y, rfl, by omega, y, rfl, ?_, we_str ⟨_, rfl, ?_, we_fmtI (we_var 1 rfl ⟨k, rfl, zk, _, rfl, ?_, ?_⟩)⟩⟩)⟩)
        · have l0 : Str.empty.length = 0 := rfl; omega
        · rw [Str.empty_append]; omega
        · rw [Str.empty_append, Str.length_append]; omega
        · rw [Str.empty_append, Str.length_append, Str.length_append]; omega
        · rw [Str.empty_append]; exact hp

/-! ### Poly.__str__ -/
abbrev N_Polyu_stru : List Str := ["self", "k"]
theorem sc_Polyu_stru : FnScope N_Polyu_stru ["self"] (defScope s_Polyu_stru) := ⟨rfl, rfl, rfl, by decide +kernel, rfl, by decide +kernel, by decide +kernel⟩
theorem ok_Polyu_stru {f : Addr} {fd : FuncData} (F : FnP K "__str__" "Poly.__str__" s_Polyu_stru f fd) (T : Tx K mg) (Pz : Mg P w K mg base (He.ga K "Poly") "is_zero" 1 [] (spPoZ K)) (Pd0 : Mg P w K mg base (He.ga K "Poly") "degree" 1 [] (spPoD K)) (Gt : Fg P w K mg base "_term" 6 [] (spTerm K))
    (Zq : Mg P w K mg base (He.ga K "Ratio") "is_zero" 1 [] (spZeroQ K)) (Zr : Mg P w K mg base (He.ga K "Residue") "is_zero" 1 [] (spZeroR K)) : FnOk P w K mg base (L2.CX P w) 7 f fd ["self"] (lift K (spPoS K)) := by
  refine def_ok F sc_Polyu_stru (fun ds P R h => ?_) (fun cdv A outer s0 H E ds Pd R hr hs => ?_)
  · obtain ⟨p, rs, tx, rfl, _⟩ := h
    rfl
  · obtain ⟨p, rs, tx, rfl, hle, hx, hp⟩ := hs
    have nd := sc_Polyu_stru.nd
    have pf : PoF K := poF T
    have hr1 : Room 1 (A.deeper (PyProof.Rows.envOfC "Poly.__str__" (defScope s_Polyu_stru) s0.heap.objs.size f cdv)) := hr.mono (by decide)
    unfold polT at hp
    refine wss_cons (ws_if (wt_val (we_meth0 hr1 takesB (we_var 0 rfl ⟨_, _, _, [], _, rfl, T.c_Poly, Pz, by decide +kernel, p, rs, rfl, _, rfl, fun t => ?_, fun t => wss_nil ?_⟩))))
    · rw [if_pos (of_decide_eq_true t)] at hp
      exact wss_one (ws_ret (we_str hp))
    · have hn : rs.length ≠ 0 := of_decide_eq_false t
      rw [if_neg hn] at hp
      refine wss_one (ws_ret (we_join (we_str ⟨_, rfl, ?_⟩)))
      refine we_lcD (g := gName 1) [("k", 1)] nd rfl T.f_range (blkOk_by (N := N_Polyu_stru) (sc := defScope s_Polyu_stru) (by decide +kernel)) (fun _ _ _ _ _ => pg_name (i := 1) nd rfl (Or.inl rfl)) (wa_cons (we_meth0 hr1 takesB (we_var 0 rfl ⟨_, _, _, [], _, rfl, T.c_Poly, Pd0, by decide +kernel, p, rs, rfl, ?_⟩)))
      refine wa_cons (we_neg (we_int ⟨1, rfl, wa_cons (we_neg (we_int ⟨1, rfl, wa_nil ⟨_, _, rfl, by omega, ⟨?_, by rw [dwnD_length]; omega⟩⟩⟩))⟩))
      have hlen : (((rs.length : Int) - 1) - -1).toNat = rs.length := by omega
      refine ⟨fun t acc ρ => acc = strsD (((List.range rs.length).reverse.take t).filterMap fun i => (tx i).map fun y => termT y i) ∧ ρ = [.pu (polD K p rs), .no], ⟨rfl, rfl⟩, ?_, ?_⟩
      · rintro t d' acc ρ hd ⟨rfl, rfl⟩ _
        have ht : t < rs.length := by
          have := (List.getElem?_eq_some_iff.mp hd).1
          rw [dwnD_length, hlen] at this
          exact this
        rw [dwnD_get (by rw [hlen]; exact ht)] at hd
        have ed : d' = dI ((rs.length : Int) - 1 - (t : Int)) := (Option.some.inj hd).symm
        obtain ⟨i, hi⟩ : ∃ i : Nat, i = rs.length - 1 - t := ⟨_, rfl⟩
        have ei : (rs.length : Int) - 1 - (t : Int) = (i : Int) := by omega
        rw [ei] at ed
        subst ed
        have hil : i < rs.length := by omega
        have hg : rs[i]? = some rs[i] := List.getElem?_eq_getElem hil
        have hxi := hx i _ hg
        have nx : (List.range rs.length).reverse.take (t + 1) = (List.range rs.length).reverse.take t ++ [i] := by
          rw [List.take_succ]
          congr 1
          rw [List.getElem?_reverse (by rw [List.length_range]; exact ht), List.length_range, List.getElem?_range (by omega), hi]
          rfl
        refine tb_name 1 (by decide) fun s H C cl fp => ?_
        refine wt_not (wt_val (we_zero T.c_Ratio T.c_Residue Zq Zr hr1 takesW (we_ix (we_pr pf (we_var 0 rfl ⟨p, rs, rfl, we_var 1 rfl ⟨rs, rs[i], .inr rfl, .inl ⟨i, rfl, hg⟩, ?_⟩⟩)))))
        cases e : tx i with
        | none =>
          rw [e] at hxi
          refine ⟨true, hxi, _, rfl, (fun z => nomatch z), fun _ => ⟨?_, rfl⟩⟩
          rw [nx, List.filterMap_append]
          simp [e]
        | some y =>
          rw [e] at hxi
          obtain ⟨z1, z2, z3⟩ := hxi
          refine ⟨false, z1, _, rfl, fun _ s H C cl fp => ?_, fun z => nomatch z⟩
          refine we_call Gt hr takesW (wa_cons (we_ix (we_pr pf (we_var 0 rfl ⟨p, rs, rfl, we_var 1 rfl ⟨rs, rs[i], .inr rfl, .inl ⟨i, rfl, hg⟩, wa_cons (we_var 1 rfl (wa_nil ⟨rs[i], y, i, rfl, z2, z3, by omega, ?_, rfl⟩))⟩⟩))))
          rw [nx, List.filterMap_append]
          simp [e, strsD]
      · rintro acc ρ ⟨rfl, rfl⟩
        have hl2 := dwnD_length ((rs.length : Int) - 1) (-1)
        rw [hlen] at hl2
        rw [hl2]
        have e1 : (List.range rs.length).reverse.take rs.length = (List.range rs.length).reverse := List.take_of_length_le (by simp)
        rw [e1]
        refine ⟨_, rfl, ?_, hp⟩
        have hb : ∀ y ∈ polL tx rs.length, y.length ≤ 300 := fun y hy => by
          obtain ⟨i, hi, he⟩ := List.mem_filterMap.mp hy
          have hil : i < rs.length := by simpa using hi
          have hxi := hx i _ (List.getElem?_eq_getElem hil)
          cases e : tx i with
          | none => rw [e] at he; cases he
          | some z =>
            rw [e] at he hxi
            cases he
            exact termT_len hxi.2.2 (by omega)
        have hlen2 : (polL tx rs.length).length ≤ rs.length := by
          have := List.length_filterMap_le (fun i => (tx i).map fun y => termT y i) (List.range rs.length).reverse
          unfold polL
          exact Nat.le_trans this (by simp)
        have hs := sum_le hb
        have l5 := len_lit1.2.2.2.2
        show ((polL tx rs.length).map (·.length)).sum + (polL tx rs.length).length * (Str.ofString " + ").length ≤ 100000
        rw [l5]
        omega
end

section
variable {P : Program} {w : World} {K : PySem.W.Frag} {mg : Str → Option Value} {base : Heap}

/-! ### _law_numbers -/
theorem sc__law_numbers : FnScope ["script", "found", "k", "cell", "turn", "i", "mixed"] ["script"] (defScope s__law_numbers) := ⟨rfl, rfl, rfl, by decide +kernel, rfl, by decide +kernel, by decide +kernel⟩
theorem ok__law_numbers {f : Addr} {fd : FuncData} (F : FnP K "_law_numbers" "_law_numbers" s__law_numbers f fd) (T : Tx K mg) : FnOk P w K mg base (L2.CX P w) 1 f fd ["script"] (liftL K spNums) := by
  refine defL_ok F sc__law_numbers (fun ds P h => ?_) (fun cdv A outer s0 H E ds Pd hr hs => ?_)
  · obtain ⟨ns, rfl, _⟩ := h
    rfl
  · obtain ⟨ns, rfl, hl, hp⟩ := hs
    have nd := sc__law_numbers.nd
    refine wss_cons (ws_setL 1 nd (wa_nil ⟨by decide, ?_⟩))
    refine wss_cons (ws_forR 2 passB rfl nd T.f_range (wa_cons (we_min2 rfl T.f_min (wa_cons (we_len T.f_len (wa_cons (we_var 0 rfl (wa_nil ⟨_, .inl rfl, wa_cons (we_int (wa_nil ⟨_, _, rfl, wa_nil ?_⟩))⟩)))))) ))
    rw [ints_len]
    have e0 : (if (63 : Int) < (ns.length : Int) then (63 : Int) else (ns.length : Int)) = (ns.length : Int) := if_neg (by omega)
    rw [e0]
    refine ⟨_, fun j ρ => ∃ (xs : List Int) (s2 s3 s4 s5 s6 : Sl), ρ = [.pu (.lst (intsD ns)), .ow false (intsD xs), s2, s3, s4, s5, s6] ∧ xs.length ≤ 60 * j, rfl, by omega, by omega, ⟨[], .no, .no, .no, .no, .no, rfl, by decide⟩, ?_, ?_⟩
    · rintro j ρ hj ⟨xs, s2, s3, s4, s5, s6, rfl, hx⟩
      have hj' : j < ns.length := by omega
      obtain ⟨z, hz⟩ := ints_get hj'
      refine wss_cons (ws_set 3 nd (we_abs T.f_abs (wa_cons (we_ix (we_var 0 rfl (we_var 2 rfl ⟨_, _, .inl rfl, .inl ⟨j, rfl, hz⟩, wa_nil ⟨z, rfl, ?_⟩⟩))))))
      generalize (if z < 0 then -z else z) = cell
      refine wss_one (ws_if (wt_cmp (we_var 3 rfl (we_bin (we_int (we_int (od_I op_pow ⟨by decide, by decide, by decide⟩ (od_ge ⟨_, rfl, fun _ => ?_, fun _ => ?_⟩))))))))
      · refine wss_one (ws_forR 4 passB rfl nd T.f_range (wa_cons (we_int (wa_nil ⟨60, fun t ρ => ∃ (xs : List Int) (cell : Int) (s4 s5 s6 : Sl), ρ = [.pu (.lst (intsD ns)), .ow false (intsD xs), .pu (dI j), .pu (dI cell), s4, s5, s6] ∧ xs.length ≤ 60 * j + t, rfl, by decide, by decide, ⟨xs, cell, s4, s5, s6, rfl, by omega⟩, ?_, ?_⟩))))
        · rintro t ρ ht ⟨xs, cell, s4, s5, s6, rfl, hx⟩
          refine wss_one (ws_if (wt_cmp (we_var 3 rfl (we_int (od_gt ⟨_, rfl, fun _ => ?_, fun _ => ?_⟩)))))
          · refine wss_cons (ws_app 1 (we_bin (we_var 3 rfl (we_int (od_mod (by decide) ⟨_, _, rfl, by rw [ints_len]; omega, ?_⟩)))) rfl ⟨_, _, rfl⟩)
            refine wss_one (ws_set 3 nd (we_bin (we_var 3 rfl (we_int (od_div ⟨by decide, by decide⟩ ?_)))))
            rw [ints_app]
            exact ⟨_, _, _, _, _, rfl, by rw [List.length_append, List.length_singleton]; omega⟩
          · exact wss_nil ⟨_, _, _, _, _, rfl, by omega⟩
        · rintro ρ ⟨xs, cell, s4, s5, s6, rfl, hx⟩
          exact ⟨xs, _, _, _, _, _, rfl, by have : (60 : Int).toNat = 60 := rfl; omega⟩
      · refine wss_one (ws_forR 5 passB rfl nd T.f_range (wa_cons (we_int (wa_nil ⟨5, fun t ρ => ∃ (xs : List Int) (cell : Int) (s4 s5 s6 : Sl), ρ = [.pu (.lst (intsD ns)), .ow false (intsD xs), .pu (dI j), .pu (dI cell), s4, s5, s6] ∧ xs.length ≤ 60 * j + t, rfl, by decide, by decide, ⟨xs, cell, s4, s5, s6, rfl, by omega⟩, ?_, ?_⟩))))
        · rintro t ρ ht ⟨xs, cell, s4, s5, s6, rfl, hx⟩
          have ht5 : t < 5 := by omega
          refine wss_cons (ws_set 3 nd ?_)
          refine we_bin (we_bin (we_bin (we_bin (we_var 3 rfl ?_))))
          refine we_int (od_mulB (.inr ⟨by decide, by decide⟩) ?_)
          refine we_bin (we_int ?_)
          refine we_bin (we_var 5 rfl (we_var 2 rfl (od_add ?_)))
          refine od_mulB (.inl ⟨by decide, by decide⟩) ?_
          refine od_add ?_
          refine we_int (od_add ?_)
          refine we_int (od_mod (by decide) ?_)
          refine wss_cons (ws_set 6 nd ?_)
          refine we_bin (we_bin (we_bin (we_var 3 rfl ?_)))
          refine we_int (od_mulB (.inr ⟨by decide, by decide⟩) ?_)
          refine we_bin (we_var 3 rfl (we_int (od_div ⟨by decide, by decide⟩ ?_)))
          refine od_add (we_int (od_mod (by decide) ?_))
          refine wss_one (ws_app 1 (we_bin (we_var 6 rfl (we_int (od_mod (by decide) ⟨_, _, rfl, by rw [ints_len]; omega, ?_⟩)))) rfl ⟨_, _, rfl⟩)
          rw [ints_app]
          exact ⟨_, _, _, _, _, rfl, by rw [List.length_append, List.length_singleton]; omega⟩
        · rintro ρ ⟨xs, cell, s4, s5, s6, rfl, hx⟩
          exact ⟨xs, _, _, _, _, _, rfl, by have : (5 : Int).toNat = 5 := rfl; omega⟩
    · rintro ρ ⟨xs, s2, s3, s4, s5, s6, rfl, hx⟩
      exact wss_one (ws_retO 1 rfl (hp xs (by have : (ns.length : Int).toNat = ns.length := rfl; omega)))

/-! ### _law_next -/
theorem sc__law_next : FnScope ["numbers", "many"] ["numbers", "many"] (defScope s__law_next) := ⟨rfl, rfl, rfl, by decide +kernel, rfl, by decide +kernel, by decide +kernel⟩
theorem ok__law_next {f : Addr} {fd : FuncData} (F : FnP K "_law_next" "_law_next" s__law_next f fd) (T : Tx K mg) : FnOk P w K mg base (L2.CX P w) 1 f fd ["numbers", "many"] (liftN K spNext) := by
  refine defN_ok F sc__law_next (fun es ds P h => ?_) (fun cdv A outer s0 H E es ds Pd hr hs => ?_)
  · obtain ⟨xs, many, _, rfl, _⟩ := h
    rfl
  · obtain ⟨xs, many, rfl, rfl, hm, hp⟩ := hs
    refine wss_cons (ws_if (wt_cmp (we_lenO 0 T.f_len rfl (we_int (od_eqI ⟨_, rfl, fun t => ?_, fun t => ?_⟩)))))
    · exact wss_one (ws_ret (we_int ⟨_, rfl, hp 0 xs (Int.le_refl _) hm⟩))
    · cases xs with
      | nil => exact absurd rfl (of_decide_eq_false t)
      | cons z xs =>
        exact wss_nil (wss_one (ws_ret (we_bin (we_pop0 0 rfl (we_var 1 rfl (od_mod hm ⟨_, rfl, hp _ xs (Int.emod_nonneg _ (by omega)) (Int.emod_lt_of_pos _ hm)⟩))))))

end

section
variable {P : Program} {w : World} {K : PySem.W.Frag} {mg : Str → Option Value} {base : Heap}
def isL (p : Int) : Prop := p = 0 ∨ p = 2 ∨ p = 3 ∨ p = 5
theorem isL_G {p : Int} (h : isL p) : isG p := by
  rcases h with rfl | rfl | rfl | rfl
  · exact .inl rfl
  · exact .inr (by decide +kernel)
  · exact .inr (by decide +kernel)
  · exact .inr (by decide +kernel)
def spPri : NSp := fun us ds P => ∃ xs : List Int, us = intsD xs ∧ ds = [] ∧ ∀ (p : Int) (xs' : List Int), isL p → P (dI p) (intsD xs')
def spGrd (K : PySem.W.Frag) : DSp := fun ds P _ => ∃ p, ds = [dI p] ∧ isG p ∧ P (grD K p)
def restI (p x : Int) : Int := if p = 0 then x else x % p
def spRest : DSp := fun ds P _ => ∃ p x, ds = [dI p, dI x] ∧ isG p ∧ P (dI (restI p x))
def trimI (zs : List Int) : List Int := (zs.reverse.dropWhile (· == 0)).reverse
theorem trimI_zero (zs : List Int) : trimI (zs ++ [0]) = trimI zs := by unfold trimI; rw [List.reverse_append]; simp
theorem trimI_stop (zs : List Int) {z : Int} (h : z ≠ 0) : trimI (zs ++ [z]) = zs ++ [z] := by
  unfold trimI
  rw [List.reverse_append]
  simp [h]
theorem last_cases (zs : List Int) : zs = [] ∨ ∃ cs z, zs = cs ++ [z] := by
  by_cases h : zs = []
  · exact .inl h
  · exact .inr ⟨zs.dropLast, zs.getLast h, (List.dropLast_concat_getLast h).symm⟩
theorem trimI_sub (zs : List Int) : (trimI zs).length ≤ zs.length ∧ (∀ c ∈ trimI zs, c ∈ zs) ∧ (trimI zs = [] ∨ ∃ cs z, trimI zs = cs ++ [z] ∧ z ≠ 0) := by
  have main : ∀ n (zs : List Int), zs.length = n → (trimI zs).length ≤ zs.length ∧ (∀ c ∈ trimI zs, c ∈ zs) ∧ (trimI zs = [] ∨ ∃ cs z, trimI zs = cs ++ [z] ∧ z ≠ 0) := fun n => by
    induction n with
    | zero =>
      intro zs h
      rw [List.eq_nil_of_length_eq_zero h]
      exact ⟨Nat.le_refl _, fun c h => h, .inl rfl⟩
    | succ n ih =>
      intro zs h
      rcases last_cases zs with rfl | ⟨cs, z, rfl⟩
      · cases h
      · by_cases hz : z = 0
        · subst hz
          rw [trimI_zero]
          have hl : cs.length = n := by simpa using h
          obtain ⟨h1, h2, h3⟩ := ih cs hl
          exact ⟨by rw [List.length_append]; omega, fun c hc => List.mem_append_left _ (h2 c hc), h3⟩
        · rw [trimI_stop _ hz]
          exact ⟨Nat.le_refl _, fun c h => h, .inr ⟨cs, z, rfl, hz⟩⟩
  exact main _ zs rfl
def spTrm : DSp := fun ds P _ => ∃ zs : List Int, ds = [.lst (intsD zs)] ∧ zs.length ≤ 1000 ∧ P (.lst (intsD (trimI zs)))
/-- a coefficient as the laws draw it -/
def CoB (p c : Int) : Prop := (p = 0 ∧ -2 ≤ c ∧ c ≤ 2) ∨ (p ≠ 0 ∧ 0 ≤ c ∧ c < p)
structure RowB (p : Int) (m : Nat) (row : List Int) : Prop where
  le : row.length ≤ m
  co : ∀ c ∈ row, CoB p c
  tr : row = [] ∨ ∃ cs z, row = cs ++ [z] ∧ z ≠ 0
def spRow : NSp := fun us ds P => ∃ (xs : List Int) (p : Int) (m : Nat), us = intsD xs ∧ ds = [dI p, dI m] ∧ isL p ∧ m ≤ 20 ∧ ∀ (row : List Int) (xs' : List Int), RowB p (m + 1) row → P (.lst (intsD row)) (intsD xs')

/-! ### _law_prime -/
theorem sc__law_prime : FnScope ["numbers"] ["numbers"] (defScope s__law_prime) := ⟨rfl, rfl, rfl, by decide +kernel, rfl, by decide +kernel, by decide +kernel⟩
theorem ok__law_prime {f : Addr} {fd : FuncData} (F : FnP K "_law_prime" "_law_prime" s__law_prime f fd) (T : Tx K mg) (Gx : FgN P w K mg base "_law_next" 1 spNext) : FnOk P w K mg base (L2.CX P w) 2 f fd ["numbers"] (liftN K spPri) := by
  refine defN_ok F sc__law_prime (fun es ds P h => ?_) (fun cdv A outer s0 H E es ds Pd hr hs => ?_)
  · obtain ⟨xs, _, rfl, _⟩ := h
    rfl
  · obtain ⟨xs, rfl, rfl, hp⟩ := hs
    refine wss_one (ws_ret (we_ix (we_lst (wa_cons (we_int (wa_cons (we_int ?_))))))) 
    refine wa_cons (we_int (wa_cons (we_int (wa_nil ⟨(show 4 ≤ 100000 by decide), ?_⟩))))
    refine we_callN 0 Gx hr takesB rfl (wa_cons (we_int (wa_nil ⟨rfl, xs, 4, rfl, rfl, by decide, fun r xs' h0 h1 => ?_⟩)))
    rcases (by omega : r = 0 ∨ r = 1 ∨ r = 2 ∨ r = 3) with rfl | rfl | rfl | rfl
    · exact ⟨_, dI 0, .inl rfl, .inl ⟨0, rfl, rfl⟩, _, rfl, hp 0 xs' (.inl rfl)⟩
    · exact ⟨_, dI 2, .inl rfl, .inl ⟨1, rfl, rfl⟩, _, rfl, hp 2 xs' (.inr (.inl rfl))⟩
    · exact ⟨_, dI 3, .inl rfl, .inl ⟨2, rfl, rfl⟩, _, rfl, hp 3 xs' (.inr (.inr (.inl rfl)))⟩
    · exact ⟨_, dI 5, .inl rfl, .inl ⟨3, rfl, rfl⟩, _, rfl, hp 5 xs' (.inr (.inr (.inr rfl)))⟩

/-! ### _law_ground -/
theorem sc__law_ground : FnScope ["p"] ["p"] (defScope s__law_ground) := ⟨rfl, rfl, rfl, by decide +kernel, rfl, by decide +kernel, by decide +kernel⟩
theorem ok__law_ground {f : Addr} {fd : FuncData} (F : FnP K "_law_ground" "_law_ground" s__law_ground f fd) (T : Tx K mg) (KG : Kg P w K mg base "Ground" (He.ga K "Ground") 3 [] (spMkG K)) (KG0 : Kg P w K mg base "Ground" (He.ga K "Ground") 3 [.int 0] (spMkG K)) : FnOk P w K mg base (L2.CX P w) 5 f fd ["p"] (lift K (spGrd K)) := by
  refine def_ok F sc__law_ground (fun ds P R h => ?_) (fun cdv A outer s0 H E ds Pd R hr hs => ?_)
  · obtain ⟨p, rfl, _⟩ := h
    rfl
  · obtain ⟨p, rfl, hg, hp⟩ := hs
    refine wss_cons (ws_if (wt_cmp (we_var 0 rfl (we_int (od_eqI ⟨_, rfl, fun t => ?_, fun t => wss_nil ?_⟩)))))
    · have e : p = 0 := of_decide_eq_true t
      subst e
      exact wss_one (ws_ret (we_make0 KG0 hr takesB ⟨_, rfl, .inl ⟨0, rfl, .inl rfl, hp⟩⟩))
    · exact wss_one (ws_ret (we_make KG hr takesB (wa_cons (we_var 0 rfl (wa_nil ⟨_, rfl, .inl ⟨p, rfl, hg, hp⟩⟩)))))

/-! ### _law_rest -/
theorem sc__law_rest : FnScope ["p", "x"] ["p", "x"] (defScope s__law_rest) := ⟨rfl, rfl, rfl, by decide +kernel, rfl, by decide +kernel, by decide +kernel⟩
theorem ok__law_rest {f : Addr} {fd : FuncData} (F : FnP K "_law_rest" "_law_rest" s__law_rest f fd) : FnOk P w K mg base (L2.CX P w) 1 f fd ["p", "x"] (lift K spRest) := by
  refine def_ok F sc__law_rest (fun ds P R h => ?_) (fun cdv A outer s0 H E ds Pd R hr hs => ?_)
  · obtain ⟨p, x, rfl, _⟩ := h
    rfl
  · obtain ⟨p, x, rfl, hg, hp⟩ := hs
    unfold restI at hp
    refine wss_cons (ws_if (wt_cmp (we_var 0 rfl (we_int (od_eqI ⟨_, rfl, fun t => ?_, fun t => wss_nil ?_⟩)))))
    · rw [if_pos (of_decide_eq_true t)] at hp
      exact wss_one (ws_ret (we_var 1 rfl hp))
    · have h0 : p ≠ 0 := of_decide_eq_false t
      rw [if_neg h0] at hp
      have := isP_range (hg.resolve_left h0)
      exact wss_one (ws_ret (we_bin (we_var 1 rfl (we_var 0 rfl (od_mod (by omega) hp)))))

/-! ### _law_trim -/
theorem sc__law_trim : FnScope ["row"] ["row"] (defScope s__law_trim) := ⟨rfl, rfl, rfl, by decide +kernel, rfl, by decide +kernel, by decide +kernel⟩
theorem ok__law_trim {f : Addr} {fd : FuncData} (F : FnP K "_law_trim" "_law_trim" s__law_trim f fd) (T : Tx K mg) : FnOk P w K mg base (L2.CX P w) 1 f fd ["row"] (lift K spTrm) := by
  refine def_ok F sc__law_trim (fun ds P R h => ?_) (fun cdv A outer s0 H E ds Pd R hr hs => ?_)
  · obtain ⟨zs, rfl, _⟩ := h
    rfl
  · obtain ⟨zs, rfl, hl, hp⟩ := hs
    refine wss_cons (ws_setList 0 sc__law_trim.nd T.f_list (wa_cons (we_var 0 rfl (wa_nil ⟨_, .inl rfl, ?_⟩))))
    refine wss_cons (ws_while passB (fun m ρ => ∃ cur : List Int, ρ = [.ow false (intsD cur)] ∧ trimI cur = trimI zs ∧ cur.length = m) ⟨zs.length, zs, rfl, rfl, rfl⟩ ?_)
    rintro m ρ ⟨cur, rfl, e, rfl⟩
    have fin : trimI cur = cur → WSs (cxB P w K mg base ["row"] "_law_trim" (defScope s__law_trim) f cdv A outer s0 H E) (wxE E) (fun C _ => R C) ((defBody s__law_trim).drop 2) [.ow false (intsD cur)] { nx := fun _ => Pd dN, rt := fun d _ => Pd d } := fun h => by
      refine wss_frz 0 rfl (wss_one (ws_ret (we_var 0 rfl ?_)))
      rw [← e, h] at hp
      exact hp
    refine WW.wt (ww_and (wt_cmp (we_lenO 0 T.f_len rfl (we_int (od_gt ⟨_, rfl, fun t => ?_, fun t => ?_⟩)))))
    · rw [ints_len] at t
      have h0 : 0 < cur.length := by have := of_decide_eq_true t; omega
      rcases last_cases cur with rfl | ⟨cs, z, rfl⟩
      · cases h0
      · have e1 : intsD (cs ++ [z]) = intsD cs ++ [dI z] := (ints_app cs z).symm
        have hget : (intsD (cs ++ [z]))[(intsD (cs ++ [z])).length - 1]? = some (dI z) := by rw [e1]; simp
        refine ww_and1 (wt_cmp (we_ixO 0 rfl (we_neg (we_int ⟨1, rfl, rfl, dI z, .inr ⟨rfl, hget⟩, we_int (od_eqI ⟨_, rfl, fun t2 => ?_, fun t2 => ?_⟩)⟩))))
        · have hz : z = 0 := of_decide_eq_true t2
          subst hz
          refine wss_at [.ow false (intsD cs ++ [dI 0])] ?_ (by rw [e1])
          exact wss_one (ws_expr (we_popE 0 rfl ⟨cs.length, by simp, cs, rfl, by rw [← e, trimI_zero], rfl⟩))
        · exact fin (trimI_stop _ (of_decide_eq_false t2))
    · rw [ints_len] at t
      have h0 : cur.length = 0 := by have := of_decide_eq_false t; omega
      have e0 := List.eq_nil_of_length_eq_zero h0
      subst e0
      exact ⟨(fun z => nomatch z), fun _ => fin rfl⟩

/-! ### _law_row -/
abbrev N__law_row : List Str := ["numbers", "p", "most", "k"]
theorem sc__law_row : FnScope N__law_row ["numbers", "p", "most"] (defScope s__law_row) := ⟨rfl, rfl, rfl, by decide +kernel, rfl, by decide +kernel, by decide +kernel⟩
theorem ok__law_row {f : Addr} {fd : FuncData} (F : FnP K "_law_row" "_law_row" s__law_row f fd) (T : Tx K mg) (Gx : FgN P w K mg base "_law_next" 1 spNext) (Gr : Fg P w K mg base "_law_rest" 1 [] spRest) (Gt : Fg P w K mg base "_law_trim" 1 [] spTrm) : FnOk P w K mg base (L2.CX P w) 2 f fd ["numbers", "p", "most"] (liftN K spRow) := by
  refine defN_ok F sc__law_row (fun es ds P h => ?_) (fun cdv A outer s0 H E es ds Pd hr hs => ?_)
  · obtain ⟨xs, p, m, _, rfl, _⟩ := h
    rfl
  · obtain ⟨xs, p, m, rfl, rfl, hL, hm, hp⟩ := hs
    have nd := sc__law_row.nd
    refine wss_one (ws_ret (we_call Gt hr takesB (wa_cons ?_)))
    refine we_lcR (g := gName 3) [("k", 3)] nd rfl T.f_range (blkOk_by (N := N__law_row) (sc := defScope s__law_row) (by decide +kernel)) (fun _ _ _ _ _ => pg_name (i := 3) nd rfl (Or.inl rfl)) (wa_cons (we_callN 0 Gx hr takesB rfl (wa_cons (we_bin (we_var 2 rfl (we_int (od_add (wa_nil ⟨rfl, xs, (m : Int) + 2, rfl, rfl, by omega, fun r xs' h0 h1 => ?_⟩))))))))
    refine wa_nil ⟨r, rfl, by omega, by omega, ⟨?_, by rw [rngD_length]; omega⟩⟩
    refine ⟨fun j acc ρ => ∃ cs xs'' : List Int, acc = intsD cs ∧ cs.length = j ∧ (∀ c ∈ cs, CoB p c) ∧ ρ = [.ow true (intsD xs''), .pu (dI p), .pu (dI m), .no], ⟨[], xs', rfl, rfl, (fun c h => nomatch h), rfl⟩, ?_, ?_⟩
    · rintro j d' acc ρ hd ⟨cs, xs'', rfl, hc, hco, rfl⟩ _
      refine tb_name 3 (by decide) fun s H C cl fp => ?_
      refine we_call Gr hr takesW (wa_cons (we_var 1 rfl (wa_cons (we_bin (we_callN 0 Gx hr takesW rfl (wa_cons (we_int (wa_nil ⟨rfl, xs'', 5, rfl, rfl, by decide, fun r2 xs3 h2 h3 => we_int (od_sub (wa_nil ?_))⟩))))))))
      refine ⟨p, r2 - 2, rfl, isL_G hL, cs ++ [restI p (r2 - 2)], xs3, ints_app _ _, by rw [List.length_append, hc]; rfl, fun c hc' => ?_, rfl⟩
      rcases List.mem_append.mp hc' with h | h
      · exact hco c h
      · have e : c = restI p (r2 - 2) := by simpa using h
        subst e
        unfold restI CoB
        by_cases h0 : p = 0
        · rw [if_pos h0]; exact .inl ⟨h0, by omega, by omega⟩
        · rw [if_neg h0]
          have := isP_range ((isL_G hL).resolve_left h0)
          exact .inr ⟨h0, Int.emod_nonneg _ h0, Int.emod_lt_of_pos _ (by omega)⟩
    · rintro acc ρ ⟨cs, xs'', rfl, hc, hco, rfl⟩
      rw [rngD_length] at hc
      obtain ⟨t1, t2, t3⟩ := trimI_sub cs
      exact wa_nil ⟨cs, rfl, by omega, _, rfl, hp _ xs'' ⟨by omega, fun c h => hco c (t2 c h), t3⟩⟩
end

section
variable {P : Program} {w : World} {K : PySem.W.Frag} {mg : Str → Option Value} {base : Heap}
/-- c over low, as a number of the ground told by p -/
def numC (K : PySem.W.Frag) (p low c : Int) : Dat := if p = 0 then ratD K (Rat.divInt c low) else resD K p (c % p)
def txtC (p low c : Int) : Str := if p = 0 then (if (Rat.divInt c low).den = 1 then toString (Rat.divInt c low).num else (toString (Rat.divInt c low).num : Str) ++ ("/" ++ (toString ((Rat.divInt c low).den : Int) : Str))) else (toString (c % p) : Str)
/-- low is drawn for the rationals alone -/
def LowB (p low : Int) : Prop := (p = 0 ∧ 1 ≤ low ∧ low ≤ 3) ∨ (p ≠ 0 ∧ low = 1)
theorem isL_le {p : Int} (h : isL p) : 0 ≤ p ∧ p ≤ 5 := by unfold isL at h; omega
theorem b64 {n : Nat} (h : n ≤ 12) : n < 10 ^ 64 := Nat.lt_of_le_of_lt h (by decide +kernel)
theorem ratC {p low c : Int} (hp : p = 0) (hl : LowB p low) (hc : CoB p c) : low ≠ 0 ∧ (Rat.divInt c low).num.natAbs ≤ 2 ∧ (Rat.divInt c low).den ≤ 3 ∧ (Rat.divInt c low = 0 ↔ c = 0) := by
  have h1 : 1 ≤ low ∧ low ≤ 3 := by unfold LowB at hl; omega
  have h2 : -2 ≤ c ∧ c ≤ 2 := by unfold CoB at hc; omega
  have h0 : low ≠ 0 := by omega
  obtain ⟨q1, q2, q3⟩ := q_div c h0
  have hpos := (Rat.divInt c low).den_pos
  refine ⟨h0, by omega, by omega, fun z => ?_, fun z => ?_⟩
  · rw [Rat.num_eq_zero.mpr z, Int.zero_mul] at q1
    rcases Int.mul_eq_zero.mp q1.symm with q | q <;> omega
  · rw [z, Int.zero_mul] at q1
    rcases Int.mul_eq_zero.mp q1 with q | q
    · rw [z]; exact Rat.num_eq_zero.mp q
    · exact absurd q h0
theorem num_C {p low c : Int} (hL : isL p) : NumD K p (numC K p low c) := by
  unfold numC
  by_cases h0 : p = 0
  · rw [if_pos h0]; exact .inl ⟨h0, _, rfl⟩
  · rw [if_neg h0]
    have hP := (isL_G hL).resolve_left h0
    exact .inr ⟨hP, _, rfl, RB.mod hP c⟩
theorem zeC {p low c : Int} (hl : LowB p low) (hc : CoB p c) : ZeD K (numC K p low c) (decide (c = 0)) := by
  unfold numC
  by_cases h0 : p = 0
  · rw [if_pos h0]
    exact .inl ⟨_, rfl, decide_eq_decide.mpr (ratC h0 hl hc).2.2.2.symm⟩
  · rw [if_neg h0]
    have h2 : 0 ≤ c ∧ c < p := by unfold CoB at hc; omega
    have e : c % p = c := Int.emod_eq_of_lt h2.1 h2.2
    exact .inr ⟨_, _, rfl, by rw [e]⟩
theorem strC {p low c : Int} (hL : isL p) (hl : LowB p low) (hc : CoB p c) : StrD K (numC K p low c) (txtC p low c) := by
  unfold numC txtC
  by_cases h0 : p = 0
  · rw [if_pos h0, if_pos h0]
    obtain ⟨_, h1, h2, _⟩ := ratC h0 hl hc
    exact .q _ (b64 (by omega)) (b64 (by omega))
  · rw [if_neg h0, if_neg h0]
    exact .r _ _ (RB.mod ((isL_G hL).resolve_left h0) c)
theorem lenC {p low c : Int} (hL : isL p) (hl : LowB p low) (hc : CoB p c) : (txtC p low c).length ≤ 200 := by
  unfold txtC
  have e : (Str.ofString "/").length = 1 := by decide +kernel
  by_cases h0 : p = 0
  · rw [if_pos h0]
    obtain ⟨_, h1, h2, _⟩ := ratC h0 hl hc
    have l1 := str_len' (n := (Rat.divInt c low).num) (k := 64) (b64 (by omega)) (by decide)
    have l2 := str_len' (n := ((Rat.divInt c low).den : Int)) (k := 64) (by rw [Int.natAbs_natCast]; exact b64 (by omega)) (by decide)
    split
    · omega
    · rw [Str.length_append, Str.length_append]; omega
  · rw [if_neg h0]
    have h2 : 0 ≤ c ∧ c < p := by unfold CoB at hc; omega
    have h3 := isL_le hL
    have e2 : c % p = c := Int.emod_eq_of_lt h2.1 h2.2
    rw [e2]
    have := str_len' (n := c) (k := 64) (b64 (by omega)) (by decide)
    omega
/-- ground.number(c, low) -/
theorem numS {p low c : Int} {Pd : Dat → Prop} {R : Addr → Prop} (hL : isL p) (hl : LowB p low) (hc : CoB p c) (hp : Pd (numC K p low c)) : spNum K [grD K p, dI c, dI low] Pd R := by
  unfold numC at hp
  by_cases h0 : p = 0
  · rw [if_pos h0] at hp
    have h1 := (ratC h0 hl hc).1
    have h2 : 1 ≤ low ∧ low ≤ 3 := by unfold LowB at hl; omega
    have h3 : -2 ≤ c ∧ c ≤ 2 := by unfold CoB at hc; omega
    exact ⟨p, c, low, rfl, .inl ⟨h0, fun z => absurd z h1, fun _ => ⟨small_b (m := 2) (by omega) (by decide) (by decide), small_b (m := 3) (by omega) (by decide) (by decide), fun z => absurd z (by omega), hp⟩⟩⟩
  · rw [if_neg h0] at hp
    have h1 : low = 1 := by unfold LowB at hl; omega
    exact ⟨p, c, low, rfl, .inr ⟨(isL_G hL).resolve_left h0, fun _ => hp, fun z => absurd h1 z, fun z => absurd h1 z⟩⟩
/-- the coefficients' texts -/
def txR (p low : Int) (row : List Int) (i : Nat) : Option Str := match row[i]? with | some c => if c = 0 then none else some (txtC p low c) | none => none
theorem txR_ok {p low : Int} {m : Nat} {row : List Int} (hL : isL p) (hl : LowB p low) (hr : RowB p m row) : TxD K (row.map fun c => numC K p low c) (txR p low row) := by
  intro i d h
  rw [List.getElem?_map] at h
  unfold txR
  cases e : row[i]? with
  | none => rw [e] at h; cases h
  | some c =>
    rw [e] at h
    have hd : d = numC K p low c := (Option.some.inj h).symm
    subst hd
    have hc := hr.co c (List.mem_of_getElem? e)
    have z := zeC (K := K) hl hc
    by_cases h0 : c = 0
    · show match (if c = 0 then (none : Option Str) else some (txtC p low c)) with | none => ZeD K (numC K p low c) true | some y => ZeD K (numC K p low c) false ∧ StrD K (numC K p low c) y ∧ y.length ≤ 200
      rw [if_pos h0]
      rw [decide_eq_true h0] at z
      exact z
    · show match (if c = 0 then (none : Option Str) else some (txtC p low c)) with | none => ZeD K (numC K p low c) true | some y => ZeD K (numC K p low c) false ∧ StrD K (numC K p low c) y ∧ y.length ≤ 200
      rw [if_neg h0]
      rw [decide_eq_false h0] at z
      exact ⟨z, strC hL hl hc, lenC hL hl hc⟩
theorem tak_C {p low : Int} (hL : isL p) : ∀ row : List Int, TakD K p (row.map fun c => numC K p low c) (row.map fun c => numC K p low c)
  | [] => .nil
  | c :: row => .num (num_C hL) (tak_C hL row)
theorem trim_C {p low : Int} {m : Nat} {row : List Int} (hl : LowB p low) (hr : RowB p m row) : Trim K (row.map fun c => numC K p low c) (row.map fun c => numC K p low c) := by
  rcases hr.tr with rfl | ⟨cs, z, rfl, hz⟩
  · exact .nil
  · rw [List.map_append]
    have h := zeC (K := K) hl (hr.co z (by simp))
    rw [decide_eq_false hz] at h
    exact .stop h

/-! ### law -/
abbrev NL : List Str := ["script", "numbers", "p", "ground", "row", "low", "f", "pieces", "k", "text", "c"]
theorem sc_law : FnScope NL ["script"] (defScope s_law) := ⟨rfl, rfl, rfl, by decide +kernel, rfl, by decide +kernel, by decide +kernel⟩
section
variable (T : Tx K mg) (Gn : FgL P w K mg base "_law_numbers" 1 spNums) (Gx : FgN P w K mg base "_law_next" 1 spNext) (Gp : FgN P w K mg base "_law_prime" 2 spPri) (Gg : Fg P w K mg base "_law_ground" 5 [] (spGrd K)) (Gw : FgN P w K mg base "_law_row" 2 spRow)
  (KP : Kg P w K mg base "Poly" (He.ga K "Poly") 12 [] (spMkP K)) (Mn : Mg P w K mg base (He.ga K "Ground") "number" 10 [] (spNum K)) (Ps : Mg P w K mg base (He.ga K "Poly") "__str__" 7 [] (spPoS K)) (Pz : Mg P w K mg base (He.ga K "Poly") "is_zero" 1 [] (spPoZ K))
  (Sq : Mg P w K mg base (He.ga K "Ratio") "__str__" 3 [] (spStrQ K)) (Sr : Mg P w K mg base (He.ga K "Residue") "__str__" 1 [] (spStrR K))
abbrev RM (f : Addr) (cdv : Value) (A : Around) (s0 : Shared) : Prop := Room 13 (A.deeper (PyProof.Rows.envOfC "law" (defScope s_law) s0.heap.objs.size f cdv))
abbrev LW (P : Program) (w : World) (K : PySem.W.Frag) (mg : Str → Option Value) (base : Heap) (f : Addr) (cdv : Value) (A : Around) (outer : List Env) (s0 : Shared) (H : Hp) (E : XK) (Pd : Dat → Prop) (R : Addr → Prop) (n : Nat) (ρ : List Sl) : Prop :=
  WSs (cxB P w K mg base NL "law" (defScope s_law) f cdv A outer s0 H E) (wxE E) (fun C _ => R C) ((defBody s_law).drop n) ρ { nx := fun _ => Pd dN, rt := fun d _ => Pd d }
variable {f : Addr} {cdv : Value} {A : Around} {outer : List Env} {s0 : Shared} {H : Hp} {E : XK} {Pd : Dat → Prop} {R : Addr → Prop} {p low : Int} {row : List Int}
theorem pos_of {tx : Nat → Option Str} {n i : Nat} {y : Str} (hi : i < n) (h : tx i = some y) : polL tx n ≠ [] := by
  intro z
  have hm : termT y i ∈ polL tx n := List.mem_filterMap.mpr ⟨i, by simpa using hi, by rw [h]; rfl⟩
  rw [z] at hm
  cases hm
include T Mn Ps Pz Sq Sr KP
/-- from "f = " on -/
theorem law_2 (hr : RM f cdv A s0) (hp : Pd (dB true)) (hL : isL p) (hl : LowB p low) (hR : RowB p 5 row) {sc nm s6 s7 s9 : Sl} :
    LW P w K mg base f cdv A outer s0 H E Pd R 6 [sc, nm, .pu (dI p), .pu (grD K p), .pu (.lst (intsD row)), .pu (dI low), s6, s7, .no, s9, .no] := by
  have nd := sc_law.nd
  have hr1 : Room 1 (A.deeper (PyProof.Rows.envOfC "law" (defScope s_law) s0.heap.objs.size f cdv)) := hr.mono (by decide)
  have hr5 : Room 5 (A.deeper (PyProof.Rows.envOfC "law" (defScope s_law) s0.heap.objs.size f cdv)) := hr.mono (by decide)
  have hr9 : Room 9 (A.deeper (PyProof.Rows.envOfC "law" (defScope s_law) s0.heap.objs.size f cdv)) := hr.mono (by decide)
  have hr10 : Room 10 (A.deeper (PyProof.Rows.envOfC "law" (defScope s_law) s0.heap.objs.size f cdv)) := hr.mono (by decide)
  have hle := hR.le
  have getI : ∀ {i : Nat}, i < row.length → ∃ c, row[i]? = some c ∧ (intsD row)[i]? = some (dI c) ∧ CoB p c := fun {i} hi =>
    ⟨row[i], List.getElem?_eq_getElem hi, by unfold intsD; rw [List.getElem?_map, List.getElem?_eq_getElem hi]; rfl, hR.co _ (List.getElem_mem hi)⟩
  refine wss_cons (ws_set 6 nd (we_make KP hr takesB (wa_cons (we_var 3 rfl (wa_cons ?_)))))
  refine we_lcL (g := gName 10) [("c", 10)] nd rfl (blkOk_by (N := NL) (sc := defScope s_law) (by decide +kernel)) (fun _ _ _ _ _ => pg_name (i := 10) nd rfl (Or.inl rfl)) (we_var 4 rfl ⟨_, rfl, ⟨?_, by rw [ints_len]; omega⟩⟩)
  refine ⟨fun j acc ρ => acc = (row.take j).map (fun c => numC K p low c) ∧ ρ = [sc, nm, .pu (dI p), .pu (grD K p), .pu (.lst (intsD row)), .pu (dI low), s6, s7, .no, s9, .no], ⟨rfl, rfl⟩, ?_, ?_⟩
  · rintro j d' acc ρ hd ⟨rfl, rfl⟩ _
    have hj : j < row.length := by
      have := (List.getElem?_eq_some_iff.mp hd).1
      rwa [ints_len] at this
    obtain ⟨c, h1, h2, hc⟩ := getI hj
    rw [h2] at hd
    have ed : d' = dI c := (Option.some.inj hd).symm
    subst ed
    refine tb_name 10 (by decide) fun s H C cl fp => ?_
    refine we_meth hr10 takesW (we_var 3 rfl ⟨_, _, _, [], _, rfl, T.c_Ground, Mn, by decide +kernel, wa_cons (we_var 10 rfl (wa_cons (we_var 5 rfl (wa_nil (numS hL hl hc ?_)))))⟩)
    refine ⟨?_, rfl⟩
    rw [List.take_succ, h1, List.map_append]
    rfl
  rintro acc ρ ⟨rfl, rfl⟩
  have el : row.take (intsD row).length = row := by rw [ints_len]; exact List.take_length
  rw [el]
  refine wa_nil ⟨p, _, _, _, .inl rfl, isL_G hL, by rw [List.length_map]; omega, tak_C hL row, trim_C hl hR, ?_⟩
  refine wss_cons (ws_setL 7 nd (wa_nil ⟨by decide, ?_⟩))
  refine wss_cons (ws_forD 8 passB rfl nd T.f_range (wa_cons (we_bin (we_len T.f_len (wa_cons (we_var 4 rfl (wa_nil ⟨_, .inl rfl, we_int (od_sub ?_)⟩)))))))
  rw [ints_len]
  have hlen : (((row.length : Int) - 1) - -1).toNat = row.length := by omega
  refine wa_cons (we_neg (we_int ⟨1, rfl, wa_cons (we_neg (we_int ⟨1, rfl, wa_nil ⟨_, _, fun t ρ => ∃ s8 s9 : Sl, ρ = [sc, nm, .pu (dI p), .pu (grD K p), .pu (.lst (intsD row)), .pu (dI low), .pu (polD K p (row.map fun c => numC K p low c)), .ow false (strsD (((List.range row.length).reverse.take t).filterMap fun i => (txR p low row i).map fun y => termT y i)), s8, s9, .no], rfl, by omega, ⟨_, _, rfl⟩, ?_, ?_⟩⟩))⟩))
  · rintro t ρ ht ⟨s8, s9, rfl⟩
    rw [hlen] at ht
    obtain ⟨i, hi⟩ : ∃ i : Nat, i = row.length - 1 - t := ⟨_, rfl⟩
    have ei : (row.length : Int) - 1 - (t : Int) = (i : Int) := by omega
    rw [ei]
    have hil : i < row.length := by omega
    obtain ⟨c, h1, h2, hc⟩ := getI hil
    have nx : (List.range row.length).reverse.take (t + 1) = (List.range row.length).reverse.take t ++ [i] := by
      rw [List.take_succ]
      congr 1
      rw [List.getElem?_reverse (by rw [List.length_range]; exact ht), List.length_range, List.getElem?_range (by omega), hi]
      rfl
    generalize hpc : ((List.range row.length).reverse.take t).filterMap (fun i => (txR p low row i).map fun y => termT y i) = pc
    have hpl : pc.length ≤ 20 := by
      rw [← hpc]
      have := List.length_filterMap_le (fun i => (txR p low row i).map fun y => termT y i) ((List.range row.length).reverse.take t)
      refine Nat.le_trans this ?_
      rw [List.length_take]
      omega
    refine wss_at [sc, nm, .pu (dI p), .pu (grD K p), .pu (.lst (intsD row)), .pu (dI low), .pu (polD K p (row.map fun c => numC K p low c)), .ow false (strsD pc), .pu (dI i), s9, .no] ?_
    have mid : (wq : Str) → True := fun _ => trivial
    refine wss_one (ws_if (wt_cmp (we_ix (we_var 4 rfl (we_var 8 rfl ⟨_, dI c, .inl rfl, .inl ⟨i, rfl, h2⟩, we_int (od_neI ⟨_, rfl, fun tt => ?_, fun tt => ?_⟩)⟩)))))
    · have h0 : c ≠ 0 := by simpa using tt
      have hx : txR p low row i = some (txtC p low c) := by
        unfold txR
        rw [h1]
        show (if c = 0 then (none : Option Str) else some (txtC p low c)) = _
        rw [if_neg h0]
      have hy := lenC hL hl hc
      have hs := strC (K := K) hL hl hc
      have hlt : (termT (txtC p low c) i).length ≤ 300 := termT_len hy (by omega)
      obtain ⟨l1, l2, l3, l4, _⟩ := len_lit1
      have lx : (Str.ofString "*x").length = 2 ∧ (Str.ofString "*x^").length = 3 := by decide +kernel
      have lk := str_small (k := i) (by omega)
      generalize hyy : txtC p low c = y at hy hs hx hlt
      refine wss_cons (ws_set 9 nd (we_bin (we_bin (we_str ?_))))
      refine we_strN T.f_str Sq (Sr.mono (by decide)) hr5 takesB (wa_cons (we_meth hr10 takesB (we_var 3 rfl ⟨_, _, _, [], _, rfl, T.c_Ground, Mn, by decide +kernel, wa_cons (we_ix (we_var 4 rfl (we_var 8 rfl ⟨_, dI c, .inl rfl, .inl ⟨i, rfl, h2⟩, ?_⟩)))⟩)))
      refine wa_cons (we_var 5 rfl (wa_nil (numS hL hl hc (wa_nil ⟨_, y, rfl, hs, ?_⟩))))
      refine od_cat (by omega) (we_str (od_cat (by rw [Str.length_append]; omega) ?_))
      have hT0 : ¬ i = 1 → ¬ 1 < i → termT y i = ("(" ++ y ++ ")" : Str) := fun u v => by
        unfold termT
        rw [if_pos (by omega)]
      have hT1 : i = 1 → termT y i = ("(" ++ y ++ ")" ++ "*x" : Str) := fun u => by
        unfold termT
        rw [if_neg (by omega), if_pos u, Str.append_assoc ("(" ++ y) ")" "*x"]
        have e : (")" ++ "*x" : Str) = ")*x" := by decide +kernel
        rw [e]
      have hT2 : 1 < i → termT y i = ("(" ++ y ++ ")" ++ "*x^" ++ (toString (i : Int) : Str) : Str) := fun u => by
        unfold termT
        rw [if_neg (by omega), if_neg (by omega), Str.append_assoc ("(" ++ y) ")" "*x^"]
        have e : (")" ++ "*x^" : Str) = ")*x^" := by decide +kernel
        rw [e]
      have lb : (("(" ++ y : Str) ++ ")").length ≤ 202 := by rw [Str.length_append, Str.length_append]; omega
      refine wss_join (fun ρ => ρ = [sc, nm, .pu (dI p), .pu (grD K p), .pu (.lst (intsD row)), .pu (dI low), .pu (polD K p (row.map fun c => numC K p low c)), .ow false (strsD pc), .pu (dI i), .pu (dS (if i = 1 then termT y i else ("(" ++ y ++ ")" : Str))), .no]) (ws_if (wt_cmp (we_var 8 rfl (we_int (od_eqI ⟨_, rfl, fun t1 => ?_, fun t1 => ?_⟩))))) ?_
      · have i1 : i = 1 := by have := of_decide_eq_true t1; omega
        refine wss_one (ws_set 9 nd (we_bin (we_var 9 rfl (we_str (od_cat (by omega) ?_)))))
        rw [if_pos i1, hT1 i1]
        rfl
      · have i1 : ¬ i = 1 := by have := of_decide_eq_false t1; omega
        rw [if_neg i1]
        exact wss_nil rfl
      rintro ρ rfl
      refine wss_join (fun ρ => ρ = [sc, nm, .pu (dI p), .pu (grD K p), .pu (.lst (intsD row)), .pu (dI low), .pu (polD K p (row.map fun c => numC K p low c)), .ow false (strsD pc), .pu (dI i), .pu (dS (termT y i)), .no]) (ws_if (wt_cmp (we_var 8 rfl (we_int (od_gt ⟨_, rfl, fun t1 => ?_, fun t1 => ?_⟩))))) ?_
      · have i1 : 1 < i := by have := of_decide_eq_true t1; omega
        rw [if_neg (by omega)]
        have zk : (i : Int).natAbs.log2 < 1920 := log2_small (small_b (m := 100) (by omega) (by decide) (by decide)) (by decide)
        refine wss_one (ws_set 9 nd (we_bin (we_bin (we_var 9 rfl (we_str (od_cat (by omega) ?_))))))
        refine we_strI T.f_str (wa_cons (we_var 8 rfl (wa_nil ⟨i, rfl, zk, od_cat (by rw [Str.length_append]; omega) ?_⟩)))
        rw [hT2 i1]
        rfl
      · have i1 : ¬ 1 < i := by have := of_decide_eq_false t1; omega
        refine wss_nil ?_
        by_cases i2 : i = 1
        · rw [if_pos i2]
        · rw [if_neg i2, hT0 i2 i1]
      rintro ρ rfl
      refine wss_one (ws_app 7 (we_var 9 rfl ⟨_, _, rfl, by unfold strsD; rw [List.length_map]; omega, ?_⟩) rfl ⟨_, _, rfl⟩)
      refine ⟨.pu (dI i), .pu (dS (termT y i)), ?_⟩
      have e1 : strsD pc ++ [dS (termT y i)] = strsD (pc ++ [termT y i]) := by unfold strsD; rw [List.map_append]; rfl
      have e2 : ((List.range row.length).reverse.take (t + 1)).filterMap (fun i => (txR p low row i).map fun y => termT y i) = pc ++ [termT y i] := by
        rw [nx, List.filterMap_append, hpc]
        simp [hx]
      rw [e1, e2]
      rfl
    · have h0 : c = 0 := by simpa using tt
      have hx : txR p low row i = none := by
        unfold txR
        rw [h1]
        show (if c = 0 then (none : Option Str) else some (txtC p low c)) = _
        rw [if_pos h0]
      refine wss_nil ⟨.pu (dI i), s9, ?_⟩
      have e2 : ((List.range row.length).reverse.take (t + 1)).filterMap (fun i => (txR p low row i).map fun y => termT y i) = pc := by
        rw [nx, List.filterMap_append, hpc]
        simp [hx]
      rw [e2]
  · rintro ρ ⟨s8, s9, rfl⟩
    rw [hlen]
    have e1 : (List.range row.length).reverse.take row.length = (List.range row.length).reverse := List.take_of_length_le (by simp)
    rw [e1]
    have hx : TxD K (row.map fun c => numC K p low c) (txR p low row) := txR_ok hL hl hR
    have hlm : (row.map fun c => numC K p low c).length = row.length := List.length_map _
    have hne : row ≠ [] → polL (txR p low row) row.length ≠ [] := fun h => by
      rcases hR.tr with e | ⟨cs, z, e, hz⟩
      · exact absurd e h
      · refine pos_of (i := cs.length) (y := txtC p low z) (by rw [e]; simp) ?_
        unfold txR
        have g : row[cs.length]? = some z := by rw [e]; simp
        rw [g]
        show (if z = 0 then (none : Option Str) else some (txtC p low z)) = _
        rw [if_neg hz]
    show WSs _ _ _ _ [sc, nm, .pu (dI p), .pu (grD K p), .pu (.lst (intsD row)), .pu (dI low), .pu (polD K p (row.map fun c => numC K p low c)), .ow false (strsD (polL (txR p low row) row.length)), s8, s9, .no] _
    have sl : ∀ ys : List Str, (strsD ys).length = ys.length := fun ys => List.length_map _
    refine wss_cons (ws_if (wt_cmp (we_lenO 7 T.f_len rfl (we_int (od_eqI ⟨_, rfl, fun t1 => ?_, fun t1 => wss_nil ?_⟩)))))
    · have h0 : polL (txR p low row) row.length = [] := by
        have := of_decide_eq_true t1
        rw [sl] at this
        exact List.eq_nil_of_length_eq_zero (by omega)
      have hr0 : row = [] := Classical.byContradiction fun h => hne h h0
      refine wss_one (ws_ret (we_and (we_cmp (we_strO T.f_str hr9 takesB (wa_cons (we_var 6 rfl (wa_nil ⟨_, _, _, _, rfl, Ps, p, _, txR p low row, rfl, by rw [hlm]; omega, hx, _, rfl, we_str (od_eqS ⟨_, rfl, fun _ => ?_, fun z => ?_⟩)⟩)))))))
      · refine we_last (we_meth0 hr1 takesB (we_var 6 rfl ⟨_, _, _, [], _, rfl, T.c_Poly, Pz, by decide +kernel, p, _, rfl, ?_⟩))
        rw [hlm, hr0]
        exact hp
      · rw [hlm, hr0] at z
        unfold polT at z
        simp at z
    · have hr0 : row ≠ [] := fun h => by
        have := of_decide_eq_false t1
        rw [sl] at this
        rw [h] at this
        exact this rfl
      have hn : row.length ≠ 0 := fun z => hr0 (List.eq_nil_of_length_eq_zero z)
      refine wss_frz 7 rfl ?_
      refine wss_one (ws_ret (we_cmp (we_strO T.f_str hr9 takesB (wa_cons (we_var 6 rfl (wa_nil ⟨_, _, _, _, rfl, Ps, p, _, txR p low row, rfl, by rw [hlm]; omega, hx, _, rfl, ?_⟩))))))
      refine we_join (we_str ⟨_, rfl, we_var 7 rfl ⟨polL (txR p low row) row.length, rfl, ?_, od_eqS ?_⟩⟩)
      · have hb : ∀ y ∈ polL (txR p low row) row.length, y.length ≤ 300 := fun y hy => by
          obtain ⟨i, hi, he⟩ := List.mem_filterMap.mp hy
          have hil : i < row.length := by simpa using hi
          obtain ⟨c, h1, h2, hc⟩ := getI hil
          unfold txR at he
          rw [h1] at he
          have he : (if c = 0 then (none : Option Str) else some (txtC p low c)).map (fun y => termT y i) = some y := he
          by_cases h0 : c = 0
          · rw [if_pos h0] at he; cases he
          · rw [if_neg h0] at he
            cases he
            exact termT_len (lenC hL hl hc) (by omega)
        have hlen2 : (polL (txR p low row) row.length).length ≤ row.length := by
          have := List.length_filterMap_le (fun i => (txR p low row i).map fun y => termT y i) (List.range row.length).reverse
          unfold polL
          exact Nat.le_trans this (by simp)
        have hs := sum_le hb
        have l5 := len_lit1.2.2.2.2
        show ((polL (txR p low row) row.length).map (·.length)).sum + (polL (txR p low row) row.length).length * (Str.ofString " + ").length ≤ 100000
        rw [l5]
        omega
      · rw [hlm]
        unfold polT
        rw [if_neg hn, decide_eq_true rfl]
        exact hp
include Gn Gx Gp Gg Gw
theorem ok_law {f : Addr} {fd : FuncData} (F : FnP K "law" "law" s_law f fd) : FnOk P w K mg base (L2.CX P w) 14 f fd ["script"] (lift K spScript) := by
  refine def_ok F sc_law (fun ds P R h => ?_) (fun cdv A outer s0 H E ds Pd R hr hs => ?_)
  · obtain ⟨ns, rfl, _⟩ := h
    rfl
  · obtain ⟨ns, rfl, hl, hp⟩ := hs
    have hr1 : Room 1 (A.deeper (PyProof.Rows.envOfC "law" (defScope s_law) s0.heap.objs.size f cdv)) := hr.mono (by decide)
    have hr2 : Room 2 (A.deeper (PyProof.Rows.envOfC "law" (defScope s_law) s0.heap.objs.size f cdv)) := hr.mono (by decide)
    have hr5 : Room 5 (A.deeper (PyProof.Rows.envOfC "law" (defScope s_law) s0.heap.objs.size f cdv)) := hr.mono (by decide)
    have nd := sc_law.nd
    refine wss_cons (ws_setF 1 Gn hr1 takesB nd (wa_cons (we_var 0 rfl (wa_nil ⟨ns, rfl, hl, fun xs hx => ?_⟩))))
    refine wss_cons (ws_set 2 nd (we_callN 1 Gp hr2 takesB rfl (wa_nil ⟨rfl, xs, rfl, rfl, fun p xs1 hL => ?_⟩)))
    refine wss_cons (ws_set 3 nd (we_call Gg hr5 takesB (wa_cons (we_var 2 rfl (wa_nil ⟨p, rfl, isL_G hL, ?_⟩)))))
    refine wss_cons (ws_set 4 nd (we_callN 1 Gw hr2 takesB rfl (wa_cons (we_var 2 rfl (wa_cons (we_int (wa_nil ⟨rfl, xs1, p, 4, rfl, rfl, hL, by decide, fun row xs2 hR => ?_⟩)))))))
    refine wss_cons (ws_set 5 nd (we_int ?_))
    refine wss_at [.pu (.lst (intsD ns)), .ow false (intsD xs2), .pu (dI p), .pu (grD K p), .pu (.lst (intsD row)), .pu (dI 1), .no, .no, .no, .no, .no] ?_
    refine wss_join (fun ρ => ∃ (low : Int) (xs3 : List Int), LowB p low ∧ ρ = [.pu (.lst (intsD ns)), .ow false (intsD xs3), .pu (dI p), .pu (grD K p), .pu (.lst (intsD row)), .pu (dI low), .no, .no, .no, .no, .no]) (ws_if (wt_cmp (we_var 2 rfl (we_int (od_eqI ⟨_, rfl, fun t => ?_, fun t => ?_⟩))))) ?_
    · have h0 : p = 0 := of_decide_eq_true t
      exact wss_one (ws_set 5 nd (we_bin (we_int (we_callN 1 Gx hr1 takesB rfl (wa_cons (we_int (wa_nil ⟨rfl, xs2, 3, rfl, rfl, by decide, fun r xs3 h1 h2 => od_add ⟨1 + r, xs3, .inl ⟨h0, by omega, by omega⟩, rfl⟩⟩)))))))
    · have h0 : p ≠ 0 := of_decide_eq_false t
      exact wss_nil ⟨1, xs2, .inr ⟨h0, rfl⟩, rfl⟩
    · rintro ρ ⟨low, xs3, hlow, rfl⟩
      exact law_2 T KP Mn Ps Pz Sq Sr hr hp hL hlow hR
end
end

theorem facts {P : Program} {w : World} {K : PySem.W.Frag} {h : Heap} {mg : Str → Option Value} {f : Addr} (X : K.In h) (G : h.Ns mainGlobals mg) (hfa : mg ("law" : Str) = some (.ref f)) (c : He.SaysX fa fn [] [] ex w h K) :
    ∃ fd : FuncData, (∀ (s : Shared) (v : Value), BindsTo s fd ⟨[v], []⟩ [("script", v)]) ∧ ∀ base : Heap, K.In base → base.Ns mainGlobals mg → FnOk P w K mg base (L2.CX P w) 14 f fd ["script"] (lift K spScript) := by
  have T := tx_of X G c
  have cd : He.SaysD fa fn K := congrArg (fun z : He.AlT => z.1) c.t
  obtain ⟨_, F_is_integer⟩ := cd.def_ 2 (d := d_is_integer) rfl
  obtain ⟨_, F_Ratiou_initu⟩ := cd.def_ 3 (d := d_Ratiou_initu) rfl
  obtain ⟨_, F_is_small_prime⟩ := cd.def_ 6 (d := d_is_small_prime) rfl
  obtain ⟨_, F_Residueu_initu⟩ := cd.def_ 7 (d := d_Residueu_initu) rfl
  obtain ⟨_, F__require_like⟩ := cd.def_ 14 (d := d__require_like) rfl
  obtain ⟨_, F_Residueu_mulu⟩ := cd.def_ 8 (d := d_Residueu_mulu) rfl
  obtain ⟨_, F_powered⟩ := cd.def_ 1 (d := d_powered) rfl
  obtain ⟨_, F_Residue_power⟩ := cd.def_ 13 (d := d_Residue_power) rfl
  obtain ⟨_, F_Residue_inverse⟩ := cd.def_ 11 (d := d_Residue_inverse) rfl
  obtain ⟨_, F_Residue_over⟩ := cd.def_ 12 (d := d_Residue_over) rfl
  obtain ⟨_, F_Ratio_is_zero⟩ := cd.def_ 5 (d := d_Ratio_is_zero) rfl
  obtain ⟨_, F_Residue_is_zero⟩ := cd.def_ 10 (d := d_Residue_is_zero) rfl
  obtain ⟨_, F_digits_of⟩ := cd.def_ 0 (d := d_digits_of) rfl
  obtain ⟨_, F_Ratiou_stru⟩ := cd.def_ 4 (d := d_Ratiou_stru) rfl
  obtain ⟨_, F_Residueu_stru⟩ := cd.def_ 9 (d := d_Residueu_stru) rfl
  obtain ⟨_, F_Groundu_initu⟩ := cd.def_ 15 (d := d_Groundu_initu) rfl
  obtain ⟨_, F_Ground_number⟩ := cd.def_ 16 (d := d_Ground_number) rfl
  obtain ⟨_, F_Ground_is_member⟩ := cd.def_ 17 (d := d_Ground_is_member) rfl
  obtain ⟨_, F_taken⟩ := cd.def_ 18 (d := d_taken) rfl
  obtain ⟨_, F_Polyu_initu⟩ := cd.def_ 19 (d := d_Polyu_initu) rfl
  obtain ⟨_, F_Poly_is_zero⟩ := cd.def_ 22 (d := d_Poly_is_zero) rfl
  obtain ⟨_, F_Poly_degree⟩ := cd.def_ 21 (d := d_Poly_degree) rfl
  obtain ⟨_, F__term⟩ := cd.def_ 23 (d := d__term) rfl
  obtain ⟨_, F_Polyu_stru⟩ := cd.def_ 20 (d := d_Polyu_stru) rfl
  obtain ⟨_, F__law_numbers⟩ := cd.def_ 24 (d := d__law_numbers) rfl
  obtain ⟨_, F__law_next⟩ := cd.def_ 25 (d := d__law_next) rfl
  obtain ⟨_, F__law_prime⟩ := cd.def_ 26 (d := d__law_prime) rfl
  obtain ⟨_, F__law_ground⟩ := cd.def_ 27 (d := d__law_ground) rfl
  obtain ⟨_, F__law_rest⟩ := cd.def_ 28 (d := d__law_rest) rfl
  obtain ⟨_, F__law_trim⟩ := cd.def_ 29 (d := d__law_trim) rfl
  obtain ⟨_, F__law_row⟩ := cd.def_ 30 (d := d__law_row) rfl
  obtain ⟨_, F_law⟩ := cd.def_ 31 (d := d_law) rfl
  have e := hfa.symm.trans T.g_law
  cases e
  have b := FunD.bindsA (ps := ["script"]) F_law fun _ _ _ _ _ _ us hl => match us, hl with | [_], _ => rfl
  refine ⟨_, fun s v => b s [v] rfl, fun base _ _ => ?_⟩
  have G_is_integer : Fg P w K mg base "is_integer" 1 [] (spIsInt K) := ⟨_, _, ["value"], _, ok_is_integer F_is_integer T, T.g_is_integer, F_is_integer.kp, (F_is_integer.bindsN fun _ _ _ _ _ _ us hl => match us, hl with | [_], _ => rfl), .nil⟩
  obtain ⟨_, v_mkQ2, b_mkQ2⟩ := FunD.binds1 (ps := ["self", "n", "d"]) F_Ratiou_initu 3 1 (fun z => nomatch z) rfl fun T kV doc pm an cdv ct us its h1 h2 => match us, its, h1, h2 with | [_, _, _], [_], _, _ => ⟨_, rfl, rfl⟩
  have G_mkQ2 : Kg P w K mg base "Ratio" (He.ga K "Ratio") 1 [] (spMkQ K) := ⟨_, _, ["self", "n", "d"], _, ok_Ratiou_initu F_Ratiou_initu T, T.k_Ratio, T.g_Ratio, b_mkQ2, v_mkQ2⟩
  have G_is_small_prime : Fg P w K mg base "is_small_prime" 2 [] (spPrime K) := ⟨_, _, ["value"], _, ok_is_small_prime F_is_small_prime T G_is_integer, T.g_is_small_prime, F_is_small_prime.kp, (F_is_small_prime.bindsN fun _ _ _ _ _ _ us hl => match us, hl with | [_], _ => rfl), .nil⟩
  have G_mkR : Kg P w K mg base "Residue" (He.ga K "Residue") 3 [] (spMkR K) := ⟨_, _, ["self", "p", "n"], _, ok_Residueu_initu F_Residueu_initu T G_is_small_prime G_is_integer, T.k_Residue, T.g_Residue, (F_Residueu_initu.bindsN fun _ _ _ _ _ _ us hl => match us, hl with | [_, _, _], _ => rfl), .nil⟩
  have G__require_like : Fg P w K mg base "_require_like" 1 [] (spReqR K) := ⟨_, _, ["one", "other"], _, ok__require_like F__require_like T, T.g__require_like, F__require_like.kp, (F__require_like.bindsN fun _ _ _ _ _ _ us hl => match us, hl with | [_, _], _ => rfl), .nil⟩
  have G_Residue_umulu : Mg P w K mg base (He.ga K "Residue") "__mul__" 5 [] (spOpR K fun x y => x * y) := ⟨_, _, ["self", "other"], _, ok_Residueu_mulu F_Residueu_mulu T G__require_like G_mkR, T.m_Residue_umulu, (F_Residueu_mulu.bindsN fun _ _ _ _ _ _ us hl => match us, hl with | [_, _], _ => rfl), .nil⟩
  have G_poweredR : Fg P w K mg base "powered" 6 [] (spPowRR K) := ⟨_, _, ["base", "k", "one"], _, okR_powered F_powered T G_Residue_umulu, T.g_powered, F_powered.kp, (F_powered.bindsN fun _ _ _ _ _ _ us hl => match us, hl with | [_, _, _], _ => rfl), .nil⟩
  have G_Residue_power0 : Mg P w K mg base (He.ga K "Residue") "power" 7 [] (spPowR0 K) := ⟨_, _, ["self", "k"], _, ok0_Residue_power F_Residue_power T G_poweredR G_mkR, T.m_Residue_power, (F_Residue_power.bindsN fun _ _ _ _ _ _ us hl => match us, hl with | [_, _], _ => rfl), .nil⟩
  have G_Residue_inverse : Mg P w K mg base (He.ga K "Residue") "inverse" 8 [] (spInvR K) := ⟨_, _, ["self"], _, ok_Residue_inverse F_Residue_inverse T G_Residue_power0, T.m_Residue_inverse, (F_Residue_inverse.bindsN fun _ _ _ _ _ _ us hl => match us, hl with | [_], _ => rfl), .nil⟩
  have G_Residue_over : Mg P w K mg base (He.ga K "Residue") "over" 9 [] (spOverR K) := ⟨_, _, ["self", "b"], _, ok_Residue_over F_Residue_over T G__require_like G_Residue_inverse G_Residue_umulu, T.m_Residue_over, (F_Residue_over.bindsN fun _ _ _ _ _ _ us hl => match us, hl with | [_, _], _ => rfl), .nil⟩
  have G_Ratio_is_zero : Mg P w K mg base (He.ga K "Ratio") "is_zero" 1 [] (spZeroQ K) := ⟨_, _, ["self"], _, ok_Ratio_is_zero F_Ratio_is_zero T, T.m_Ratio_is_zero, (F_Ratio_is_zero.bindsN fun _ _ _ _ _ _ us hl => match us, hl with | [_], _ => rfl), .nil⟩
  have G_Residue_is_zero : Mg P w K mg base (He.ga K "Residue") "is_zero" 1 [] (spZeroR K) := ⟨_, _, ["self"], _, ok_Residue_is_zero F_Residue_is_zero T, T.m_Residue_is_zero, (F_Residue_is_zero.bindsN fun _ _ _ _ _ _ us hl => match us, hl with | [_], _ => rfl), .nil⟩
  have G_digits0 : Fg P w K mg base "digits_of" 1 [] spDig0 := ⟨_, _, ["n"], _, ok0_digits_of F_digits_of T, T.g_digits_of, F_digits_of.kp, (F_digits_of.bindsN fun _ _ _ _ _ _ us hl => match us, hl with | [_], _ => rfl), .nil⟩
  have G_digits_of : Fg P w K mg base "digits_of" 2 [] spDig := ⟨_, _, ["n"], _, ok_digits_of F_digits_of T G_digits0, T.g_digits_of, F_digits_of.kp, (F_digits_of.bindsN fun _ _ _ _ _ _ us hl => match us, hl with | [_], _ => rfl), .nil⟩
  have G_Ratio_ustru : Mg P w K mg base (He.ga K "Ratio") "__str__" 3 [] (spStrQ K) := ⟨_, _, ["self"], _, ok_Ratiou_stru F_Ratiou_stru T G_digits_of, T.m_Ratio_ustru, (F_Ratiou_stru.bindsN fun _ _ _ _ _ _ us hl => match us, hl with | [_], _ => rfl), .nil⟩
  have G_Residue_ustru : Mg P w K mg base (He.ga K "Residue") "__str__" 1 [] (spStrR K) := ⟨_, _, ["self"], _, ok_Residueu_stru F_Residueu_stru T, T.m_Residue_ustru, (F_Residueu_stru.bindsN fun _ _ _ _ _ _ us hl => match us, hl with | [_], _ => rfl), .nil⟩
  obtain ⟨_, v_mkG, b_mkG⟩ := FunD.binds1 (ps := ["self", "p"]) F_Groundu_initu 2 1 (fun z => nomatch z) rfl fun T kV doc pm an cdv ct us its h1 h2 => match us, its, h1, h2 with | [_, _], [_], _, _ => ⟨_, rfl, rfl⟩
  have G_mkG : Kg P w K mg base "Ground" (He.ga K "Ground") 3 [] (spMkG K) := ⟨_, _, ["self", "p"], _, ok_Groundu_initu F_Groundu_initu T G_is_integer G_is_small_prime, T.k_Ground, T.g_Ground, b_mkG, v_mkG⟩
  obtain ⟨_, v_mkG0, b_mkG0⟩ := FunD.binds1 (ps := ["self", "p"]) F_Groundu_initu 1 0 (fun z => nomatch z) rfl fun T kV doc pm an cdv ct us its h1 h2 => match us, its, h1, h2 with | [_], [_], _, _ => ⟨_, rfl, rfl⟩
  have G_mkG0 : Kg P w K mg base "Ground" (He.ga K "Ground") 3 [.int 0] (spMkG K) := ⟨_, _, ["self", "p"], _, ok_Groundu_initu F_Groundu_initu T G_is_integer G_is_small_prime, T.k_Ground, T.g_Ground, b_mkG0, v_mkG0⟩
  obtain ⟨_, v_Ground_number, b_Ground_number⟩ := FunD.binds1 (ps := ["self", "n", "d"]) F_Ground_number 3 1 (fun z => nomatch z) rfl fun T kV doc pm an cdv ct us its h1 h2 => match us, its, h1, h2 with | [_, _, _], [_], _, _ => ⟨_, rfl, rfl⟩
  have G_Ground_number : Mg P w K mg base (He.ga K "Ground") "number" 10 [] (spNum K) := ⟨_, _, ["self", "n", "d"], _, ok_Ground_number F_Ground_number T G_mkQ2 G_mkR G_Residue_over, T.m_Ground_number, b_Ground_number, v_Ground_number⟩
  obtain ⟨_, v_Ground_number1, b_Ground_number1⟩ := FunD.binds1 (ps := ["self", "n", "d"]) F_Ground_number 2 0 (fun z => nomatch z) rfl fun T kV doc pm an cdv ct us its h1 h2 => match us, its, h1, h2 with | [_, _], [_], _, _ => ⟨_, rfl, rfl⟩
  have G_Ground_number1 : Mg P w K mg base (He.ga K "Ground") "number" 10 [.int 1] (spNum K) := ⟨_, _, ["self", "n", "d"], _, ok_Ground_number F_Ground_number T G_mkQ2 G_mkR G_Residue_over, T.m_Ground_number, b_Ground_number1, v_Ground_number1⟩
  have G_Ground_is_member : Mg P w K mg base (He.ga K "Ground") "is_member" 1 [] (spMem K) := ⟨_, _, ["self", "value"], _, ok_Ground_is_member F_Ground_is_member T, T.m_Ground_is_member, (F_Ground_is_member.bindsN fun _ _ _ _ _ _ us hl => match us, hl with | [_, _], _ => rfl), .nil⟩
  have G_taken : Fg P w K mg base "taken" 11 [] (spTaken K) := ⟨_, _, ["ground", "item"], _, ok_taken F_taken T G_Ground_is_member G_is_integer G_Ground_number1, T.g_taken, F_taken.kp, (F_taken.bindsN fun _ _ _ _ _ _ us hl => match us, hl with | [_, _], _ => rfl), .nil⟩
  have G_mkP : Kg P w K mg base "Poly" (He.ga K "Poly") 12 [] (spMkP K) := ⟨_, _, ["self", "ground", "row"], _, ok_Polyu_initu F_Polyu_initu T G_taken G_Ratio_is_zero G_Residue_is_zero, T.k_Poly, T.g_Poly, (F_Polyu_initu.bindsN fun _ _ _ _ _ _ us hl => match us, hl with | [_, _, _], _ => rfl), .nil⟩
  have G_Poly_is_zero : Mg P w K mg base (He.ga K "Poly") "is_zero" 1 [] (spPoZ K) := ⟨_, _, ["self"], _, ok_Poly_is_zero F_Poly_is_zero T, T.m_Poly_is_zero, (F_Poly_is_zero.bindsN fun _ _ _ _ _ _ us hl => match us, hl with | [_], _ => rfl), .nil⟩
  have G_Poly_degree : Mg P w K mg base (He.ga K "Poly") "degree" 1 [] (spPoD K) := ⟨_, _, ["self"], _, ok_Poly_degree F_Poly_degree T, T.m_Poly_degree, (F_Poly_degree.bindsN fun _ _ _ _ _ _ us hl => match us, hl with | [_], _ => rfl), .nil⟩
  have G__term : Fg P w K mg base "_term" 6 [] (spTerm K) := ⟨_, _, ["c", "k"], _, ok__term F__term T G_Ratio_ustru (G_Residue_ustru), T.g__term, F__term.kp, (F__term.bindsN fun _ _ _ _ _ _ us hl => match us, hl with | [_, _], _ => rfl), .nil⟩
  have G_Poly_ustru : Mg P w K mg base (He.ga K "Poly") "__str__" 7 [] (spPoS K) := ⟨_, _, ["self"], _, ok_Polyu_stru F_Polyu_stru T G_Poly_is_zero G_Poly_degree G__term G_Ratio_is_zero G_Residue_is_zero, T.m_Poly_ustru, (F_Polyu_stru.bindsN fun _ _ _ _ _ _ us hl => match us, hl with | [_], _ => rfl), .nil⟩
  have G__law_numbers : FgL P w K mg base "_law_numbers" 1 spNums := ⟨_, _, ["script"], ok__law_numbers F__law_numbers T, T.g__law_numbers, F__law_numbers.kp, (F__law_numbers.bindsN fun _ _ _ _ _ _ us hl => match us, hl with | [_], _ => rfl)⟩
  have G__law_next : FgN P w K mg base "_law_next" 1 spNext := ⟨_, _, ["numbers", "many"], ok__law_next F__law_next T, T.g__law_next, F__law_next.kp, (F__law_next.bindsN fun _ _ _ _ _ _ us hl => match us, hl with | [_, _], _ => rfl)⟩
  have G__law_prime : FgN P w K mg base "_law_prime" 2 spPri := ⟨_, _, ["numbers"], ok__law_prime F__law_prime T G__law_next, T.g__law_prime, F__law_prime.kp, (F__law_prime.bindsN fun _ _ _ _ _ _ us hl => match us, hl with | [_], _ => rfl)⟩
  have G__law_ground : Fg P w K mg base "_law_ground" 5 [] (spGrd K) := ⟨_, _, ["p"], _, ok__law_ground F__law_ground T G_mkG G_mkG0, T.g__law_ground, F__law_ground.kp, (F__law_ground.bindsN fun _ _ _ _ _ _ us hl => match us, hl with | [_], _ => rfl), .nil⟩
  have G__law_rest : Fg P w K mg base "_law_rest" 1 [] spRest := ⟨_, _, ["p", "x"], _, ok__law_rest F__law_rest, T.g__law_rest, F__law_rest.kp, (F__law_rest.bindsN fun _ _ _ _ _ _ us hl => match us, hl with | [_, _], _ => rfl), .nil⟩
  have G__law_trim : Fg P w K mg base "_law_trim" 1 [] spTrm := ⟨_, _, ["row"], _, ok__law_trim F__law_trim T, T.g__law_trim, F__law_trim.kp, (F__law_trim.bindsN fun _ _ _ _ _ _ us hl => match us, hl with | [_], _ => rfl), .nil⟩
  have G__law_row : FgN P w K mg base "_law_row" 2 spRow := ⟨_, _, ["numbers", "p", "most"], ok__law_row F__law_row T G__law_next G__law_rest G__law_trim, T.g__law_row, F__law_row.kp, (F__law_row.bindsN fun _ _ _ _ _ _ us hl => match us, hl with | [_, _, _], _ => rfl)⟩
  exact ok_law T G__law_numbers G__law_next G__law_prime G__law_ground G__law_row G_mkP G_Ground_number G_Poly_ustru G_Poly_is_zero G_Ratio_ustru G_Residue_ustru F_law
end K11

open PySem PySem.W PySem.Calls PyProof.Rows in
theorem PySem.Challenge.cw_similarforms_k11_texts_of_polynomials_holds : PySem.Challenge.rw_similarforms_k11_texts_of_polynomials.Holds := by
  w_on; o_law
  refine HandSHeadRun.head_imp (r := OpenLaw.row PySem.Challenge.rw_similarforms_k11_texts_of_polynomials) (q := K11.qv) (H := K11.hk) (ob := K11.ob) (M := 9000) (loose := K11.names)
    (d := HandSHeadRun.topDef (OpenLaw.row PySem.Challenge.rw_similarforms_k11_texts_of_polynomials).prog 43) (kwd := []) K11.ob_eq K11.run
    (by kernel_rfl) (by kernel_rfl) (by kernel_rfl) (by rfl) (by first | assumption | decide +kernel) (by decide +kernel) ⟨rfl, rfl, rfl, rfl, rfl, by decide +kernel⟩ ?hw ?hc
  case hw => w_witness2
  case hc =>
    refine Sf.walk_d (l := PySem.Challenge.rw_similarforms_k11_texts_of_polynomials) (k := 14) (x := "script") rfl rfl ⟨rfl, by decide, by decide⟩ ?_
    intro w mg fa h Y G named
    obtain ⟨K, KX, c⟩ := Y
    have e : (HandSHeadRun.topDef (OpenLaw.row PySem.Challenge.rw_similarforms_k11_texts_of_polynomials).prog 43).name = ("law" : PySem.Str) := by kernel_rfl
    obtain ⟨fd, b, keeps⟩ := K11.facts (P := (PySem.Challenge.rw_similarforms_k11_texts_of_polynomials).prog) (w := w) KX G (e ▸ named) c
    exact ⟨K, fd, KX, b, keeps⟩
