import PyProof.Rows.All
import Wide.All
import OpenK.AllK
import Wide.FinOn
import HandS.ForMost
import HandS.ForExc
import HandS.Evl
import HandS.HeadHook4
import HandS.Head2
import HandS.HeadWalk
import HandS.HeadEnd
import HandS.ExcField
import HandS.Head3
import HandS.Defaults
import PySem.Challenge.RW_similarforms_k08_division
import HandS.OwnEq
import HandS.IsInst
import HandS.FStr
import HandS.Gcd
import HandS.TryOnly
import HandS.CallSlots
import HandS.Wide
import HandS.Flow
import HandS.Style
import KE.KOpsOwn
import HandS.Zip
import HandS.Walk
import HandS.Text
import HandS.WideMore
import HandS.StrMore
import HandS.Comp
import HandS.ExcInit
import PyProof.NeKinds
import KE.GoesMore
import KE.KFmtOwn
import HandS.Iter
set_option Elab.async false
set_option linter.all false
set_option maxRecDepth 100000
set_option maxHeartbeats 0
set_option autoImplicit false
namespace Sf
open PySem L2
/-! ### a program's names: what its top must show of them (first of all texts) -/
inductive GK where
  | fn
  | fnN
  | cls
  | exc
  | excF (f : Str)
  | int (i : Int)
  | str (s : Str)
  | tupI (is : List Int)
  | blt
  | imp (id : String)
  | no
  deriving DecidableEq
/-- the types of data, as isinstance asks -/
inductive Ty where
  | non | bl | int | str | lst | tup | cls (C : Str)
  deriving DecidableEq
def isaT (t u : Ty) : Bool := decide (t = u) || (decide (t = .bl) && decide (u = .int))
def tyV (K : PySem.W.Frag) : Ty → Value
  | .non => .type "NoneType"
  | .bl => .type "bool"
  | .int => .type "int"
  | .str => .type "str"
  | .lst => .type "list"
  | .tup => .type "tuple"
  | .cls C => .ref (He.ga K C)
/-- a def as it is written -/
structure FnI where
  ps : List Str
  N : List Str
  body : List Stmt
  scope : Scope
  dfl : List V
structure StD where
  kinds : List (Str × GK)
  fns : List (Str × FnI)
  mts : List ((Str × Str) × FnI)
  cls : List Str
  flds : List (Str × Str)
  exm : List ((Str × Str) × Bool)
def opNames : List (Operator × Str) := [(.Add, "__add__"), (.Sub, "__sub__"), (.Mult, "__mul__"), (.FloorDiv, "__floordiv__"), (.Mod, "__mod__")]
section
variable (K : PySem.W.Frag) (S : StD)
def oexB (C : Addr) : Bool := (match K.lookup C with
  | some ⟨.type "type", _, .cls cd, sl⟩ => (match cd.mro, sl.toList with
    | .ref C' :: bm, [_, _, _, _, some (.builtin n), _] => C' == C && n == "ValueError.__new__" && !cd.hasDel && cd.hasDict && PySem.HandSPX.refsVE bm
    | _, _ => false)
  | _ => false) && (He.eqO (PySem.W.findIn K (.ref C) "__setattr__") (some (some (.builtin "object.__setattr__"))) && (decide (PySem.W.subIn K (.ref C) (.type "BaseException") = some true) && (decide (PySem.W.typeIn K (.ref C) = some (.type "type")) && PySem.W.keepIn K (.ref C))))
def ga2 (x : Str) : Addr := He.ga K x
def gloB (x : Str) : Bool := He.eqO (PySem.W.nsIn K mainGlobals x) (some (some (.ref (He.ga K x))))
def gkB (x : Str) : GK → Bool
  | .fn => gloB K x && (S.fns.lookup x).isSome
  | .fnN => gloB K x && (match S.fns.lookup x with
    | some f => f.dfl.isEmpty
    | none => false)
  | .cls => gloB K x && ((He.Fa.mkr x).ok K && (S.cls.contains x && (S.mts.lookup (x, ("__init__" : Str))).isSome))
  | .exc => gloB K x && (He.Fa.exc x).ok K
  | .excF f => gloB K x && (oexB K (He.ga K x) && (xfB K (He.ga K x) && ((He.eqO (PySem.W.findIn K (.ref (He.ga K x)) f) (some none)) && (He.eqO (PySem.W.findIn K (.ref (He.ga K x)) "__init__") (some (some (.ref (He.ma K (He.ga K x) "__init__")))) && decide (PySem.W.typeIn K (.ref (He.ma K (He.ga K x) "__init__")) = some (.type "function"))))))
  | .int i => (He.Fa.int x i).ok K
  | .str z => (He.Fa.str x z).ok K
  | .tupI is => gloB K x && He.tupB K x (is.map He.Dv.int)
  | .blt => (He.Fa.free x).ok K
  | .imp id => He.eqO (PySem.W.nsIn K mainGlobals x) (some (some (.builtin id)))
  | .no => true
def baseT : List Ty := [.non, .bl, .int, .str, .lst, .tup]
def tysB : List Ty := baseT ++ S.cls.map Ty.cls
def clsB (C : Str) : Bool := (He.Fa.cls C).ok K && (He.eqO (PySem.W.findIn K (.ref (He.ga K C)) "__class__") (some (some (.builtin "object.__class__"))) && (decide (PySem.W.mroIn K (He.ga K C) (.type "object") = some true) && (PySem.W.selfFirst K (He.ga K C) &&
  (He.eqO (PySem.W.findIn K (.ref (He.ga K C)) "__ne__") (some (some (.builtin "object.__ne__"))) && (decide (PySem.W.subIn K (.ref (He.ga K C)) (.type "object") = some true) &&
  ((tysB S).all (fun t => PySem.W.notFirst K (He.ga K C) (tyV K t)) && S.cls.all fun D => C == D || (decide (He.ga K C ≠ He.ga K D) && decide (PySem.W.subIn K (.ref (He.ga K D)) (.ref (He.ga K C)) = some false))))))))
def fldB (p : Str × Str) : Bool := S.cls.contains p.1 && He.eqO (PySem.W.findIn K (.ref (He.ga K p.1)) p.2) (some none)
def mtB (p : (Str × Str) × FnI) : Bool := p.1.2 == "__init__" || ((He.Fa.meth p.1.1 p.1.2).ok K && (opNames.all fun o => !(o.2 == p.1.2) || He.eqO (PySem.W.findIn K (.ref (He.ga K p.1.1)) (PySem.dunderR o.1.info.2)) (some none)))
def exmB (p : (Str × Str) × Bool) : Bool := decide (PySem.W.exmOne K (.ref (He.ga K p.1.1)) (.ref (He.ga K p.1.2)) = some p.2)
def kitB : Bool := (tysB S).all fun t => (tysB S).all fun u => decide (PySem.W.kitOne K (tyV K t) (tyV K u) = some (isaT t u))
def statB : Bool := gloB K "law" && ((He.eqO (PySem.W.specialIn K (.builtin "object.__class__") "__get__") (some (some (.builtin "getset_descriptor.__get__"))) && decide (PySem.W.takesIn K (.builtin "object.__class__") = some true)) && (S.kinds.all (fun p => gkB K S p.1 p.2) && (S.cls.all (clsB K S) && (S.flds.all (fldB K S) && (S.mts.all (mtB K) && (S.exm.all (exmB K) && kitB K S))))))
end
end Sf
namespace D08
open PySem L2 Sf
def topS (i : Nat) : Stmt := PySem.Challenge.pw_similarforms_k08_division.main.body.getD i (.Pass ⟨0, 0, 0, 0⟩)
def s_powered : Stmt := topS 15
def f_powered : FnI := ⟨["base", "k", "one"], ["base", "k", "one", "result"], defBody s_powered, defScope s_powered, []⟩
def d_powered : He.DefD := ⟨("powered", none), "powered", "powered", defArgs s_powered, defBody s_powered, defScope s_powered, [], []⟩
def s_is_integer : Stmt := topS 17
def f_is_integer : FnI := ⟨["value"], ["value"], defBody s_is_integer, defScope s_is_integer, []⟩
def d_is_integer : He.DefD := ⟨("is_integer", none), "is_integer", "is_integer", defArgs s_is_integer, defBody s_is_integer, defScope s_is_integer, [], []⟩
def s_Ratiou_initu : Stmt := inClass (topS 18) 0
def f_Ratiou_initu : FnI := ⟨["self", "n", "d"], ["self", "n", "d", "common"], defBody s_Ratiou_initu, defScope s_Ratiou_initu, [.int 1]⟩
def d_Ratiou_initu : He.DefD := ⟨("Ratio", some "__init__"), "__init__", "Ratio.__init__", defArgs s_Ratiou_initu, defBody s_Ratiou_initu, defScope s_Ratiou_initu, [.int 1], []⟩
def s_Ratiou_addu : Stmt := inClass (topS 18) 1
def f_Ratiou_addu : FnI := ⟨["self", "other"], ["self", "other"], defBody s_Ratiou_addu, defScope s_Ratiou_addu, []⟩
def d_Ratiou_addu : He.DefD := ⟨("Ratio", some "__add__"), "__add__", "Ratio.__add__", defArgs s_Ratiou_addu, defBody s_Ratiou_addu, defScope s_Ratiou_addu, [], []⟩
def s_Ratiou_subu : Stmt := inClass (topS 18) 2
def f_Ratiou_subu : FnI := ⟨["self", "other"], ["self", "other"], defBody s_Ratiou_subu, defScope s_Ratiou_subu, []⟩
def d_Ratiou_subu : He.DefD := ⟨("Ratio", some "__sub__"), "__sub__", "Ratio.__sub__", defArgs s_Ratiou_subu, defBody s_Ratiou_subu, defScope s_Ratiou_subu, [], []⟩
def s_Ratiou_mulu : Stmt := inClass (topS 18) 3
def f_Ratiou_mulu : FnI := ⟨["self", "other"], ["self", "other"], defBody s_Ratiou_mulu, defScope s_Ratiou_mulu, []⟩
def d_Ratiou_mulu : He.DefD := ⟨("Ratio", some "__mul__"), "__mul__", "Ratio.__mul__", defArgs s_Ratiou_mulu, defBody s_Ratiou_mulu, defScope s_Ratiou_mulu, [], []⟩
def s_Ratiou_equ : Stmt := inClass (topS 18) 5
def f_Ratiou_equ : FnI := ⟨["self", "other"], ["self", "other"], defBody s_Ratiou_equ, defScope s_Ratiou_equ, []⟩
def d_Ratiou_equ : He.DefD := ⟨("Ratio", some "__eq__"), "__eq__", "Ratio.__eq__", defArgs s_Ratiou_equ, defBody s_Ratiou_equ, defScope s_Ratiou_equ, [], []⟩
def s_Ratio_is_zero : Stmt := inClass (topS 18) 7
def f_Ratio_is_zero : FnI := ⟨["self"], ["self"], defBody s_Ratio_is_zero, defScope s_Ratio_is_zero, []⟩
def d_Ratio_is_zero : He.DefD := ⟨("Ratio", some "is_zero"), "is_zero", "Ratio.is_zero", defArgs s_Ratio_is_zero, defBody s_Ratio_is_zero, defScope s_Ratio_is_zero, [], []⟩
def s_Ratio_inverse : Stmt := inClass (topS 18) 8
def f_Ratio_inverse : FnI := ⟨["self"], ["self"], defBody s_Ratio_inverse, defScope s_Ratio_inverse, []⟩
def d_Ratio_inverse : He.DefD := ⟨("Ratio", some "inverse"), "inverse", "Ratio.inverse", defArgs s_Ratio_inverse, defBody s_Ratio_inverse, defScope s_Ratio_inverse, [], []⟩
def s__require_ratio : Stmt := topS 19
def f__require_ratio : FnI := ⟨["value"], ["value"], defBody s__require_ratio, defScope s__require_ratio, []⟩
def d__require_ratio : He.DefD := ⟨("_require_ratio", none), "_require_ratio", "_require_ratio", defArgs s__require_ratio, defBody s__require_ratio, defScope s__require_ratio, [], []⟩
def s_is_small_prime : Stmt := topS 22
def f_is_small_prime : FnI := ⟨["value"], ["value"], defBody s_is_small_prime, defScope s_is_small_prime, []⟩
def d_is_small_prime : He.DefD := ⟨("is_small_prime", none), "is_small_prime", "is_small_prime", defArgs s_is_small_prime, defBody s_is_small_prime, defScope s_is_small_prime, [], []⟩
def s_Residueu_initu : Stmt := inClass (topS 23) 0
def f_Residueu_initu : FnI := ⟨["self", "p", "n"], ["self", "p", "n"], defBody s_Residueu_initu, defScope s_Residueu_initu, []⟩
def d_Residueu_initu : He.DefD := ⟨("Residue", some "__init__"), "__init__", "Residue.__init__", defArgs s_Residueu_initu, defBody s_Residueu_initu, defScope s_Residueu_initu, [], []⟩
def s_Residueu_addu : Stmt := inClass (topS 23) 1
def f_Residueu_addu : FnI := ⟨["self", "other"], ["self", "other"], defBody s_Residueu_addu, defScope s_Residueu_addu, []⟩
def d_Residueu_addu : He.DefD := ⟨("Residue", some "__add__"), "__add__", "Residue.__add__", defArgs s_Residueu_addu, defBody s_Residueu_addu, defScope s_Residueu_addu, [], []⟩
def s_Residueu_subu : Stmt := inClass (topS 23) 2
def f_Residueu_subu : FnI := ⟨["self", "other"], ["self", "other"], defBody s_Residueu_subu, defScope s_Residueu_subu, []⟩
def d_Residueu_subu : He.DefD := ⟨("Residue", some "__sub__"), "__sub__", "Residue.__sub__", defArgs s_Residueu_subu, defBody s_Residueu_subu, defScope s_Residueu_subu, [], []⟩
def s_Residueu_mulu : Stmt := inClass (topS 23) 3
def f_Residueu_mulu : FnI := ⟨["self", "other"], ["self", "other"], defBody s_Residueu_mulu, defScope s_Residueu_mulu, []⟩
def d_Residueu_mulu : He.DefD := ⟨("Residue", some "__mul__"), "__mul__", "Residue.__mul__", defArgs s_Residueu_mulu, defBody s_Residueu_mulu, defScope s_Residueu_mulu, [], []⟩
def s_Residueu_equ : Stmt := inClass (topS 23) 5
def f_Residueu_equ : FnI := ⟨["self", "other"], ["self", "other"], defBody s_Residueu_equ, defScope s_Residueu_equ, []⟩
def d_Residueu_equ : He.DefD := ⟨("Residue", some "__eq__"), "__eq__", "Residue.__eq__", defArgs s_Residueu_equ, defBody s_Residueu_equ, defScope s_Residueu_equ, [], []⟩
def s_Residue_is_zero : Stmt := inClass (topS 23) 7
def f_Residue_is_zero : FnI := ⟨["self"], ["self"], defBody s_Residue_is_zero, defScope s_Residue_is_zero, []⟩
def d_Residue_is_zero : He.DefD := ⟨("Residue", some "is_zero"), "is_zero", "Residue.is_zero", defArgs s_Residue_is_zero, defBody s_Residue_is_zero, defScope s_Residue_is_zero, [], []⟩
def s_Residue_inverse : Stmt := inClass (topS 23) 8
def f_Residue_inverse : FnI := ⟨["self"], ["self"], defBody s_Residue_inverse, defScope s_Residue_inverse, []⟩
def d_Residue_inverse : He.DefD := ⟨("Residue", some "inverse"), "inverse", "Residue.inverse", defArgs s_Residue_inverse, defBody s_Residue_inverse, defScope s_Residue_inverse, [], []⟩
def s_Residue_power : Stmt := inClass (topS 23) 10
def f_Residue_power : FnI := ⟨["self", "k"], ["self", "k"], defBody s_Residue_power, defScope s_Residue_power, []⟩
def d_Residue_power : He.DefD := ⟨("Residue", some "power"), "power", "Residue.power", defArgs s_Residue_power, defBody s_Residue_power, defScope s_Residue_power, [], []⟩
def s__require_like : Stmt := topS 24
def f__require_like : FnI := ⟨["one", "other"], ["one", "other"], defBody s__require_like, defScope s__require_like, []⟩
def d__require_like : He.DefD := ⟨("_require_like", none), "_require_like", "_require_like", defArgs s__require_like, defBody s__require_like, defScope s__require_like, [], []⟩
def s_Groundu_initu : Stmt := inClass (topS 26) 0
def f_Groundu_initu : FnI := ⟨["self", "p"], ["self", "p"], defBody s_Groundu_initu, defScope s_Groundu_initu, [.int 0]⟩
def d_Groundu_initu : He.DefD := ⟨("Ground", some "__init__"), "__init__", "Ground.__init__", defArgs s_Groundu_initu, defBody s_Groundu_initu, defScope s_Groundu_initu, [.int 0], []⟩
def s_Groundu_equ : Stmt := inClass (topS 26) 1
def f_Groundu_equ : FnI := ⟨["self", "other"], ["self", "other"], defBody s_Groundu_equ, defScope s_Groundu_equ, []⟩
def d_Groundu_equ : He.DefD := ⟨("Ground", some "__eq__"), "__eq__", "Ground.__eq__", defArgs s_Groundu_equ, defBody s_Groundu_equ, defScope s_Groundu_equ, [], []⟩
def s_Ground_number : Stmt := inClass (topS 26) 2
def f_Ground_number : FnI := ⟨["self", "n", "d"], ["self", "n", "d", "number"], defBody s_Ground_number, defScope s_Ground_number, [.int 1]⟩
def d_Ground_number : He.DefD := ⟨("Ground", some "number"), "number", "Ground.number", defArgs s_Ground_number, defBody s_Ground_number, defScope s_Ground_number, [.int 1], []⟩
def s_Ground_zero : Stmt := inClass (topS 26) 3
def f_Ground_zero : FnI := ⟨["self"], ["self"], defBody s_Ground_zero, defScope s_Ground_zero, []⟩
def d_Ground_zero : He.DefD := ⟨("Ground", some "zero"), "zero", "Ground.zero", defArgs s_Ground_zero, defBody s_Ground_zero, defScope s_Ground_zero, [], []⟩
def s_Ground_one : Stmt := inClass (topS 26) 4
def f_Ground_one : FnI := ⟨["self"], ["self"], defBody s_Ground_one, defScope s_Ground_one, []⟩
def d_Ground_one : He.DefD := ⟨("Ground", some "one"), "one", "Ground.one", defArgs s_Ground_one, defBody s_Ground_one, defScope s_Ground_one, [], []⟩
def s_Ground_is_member : Stmt := inClass (topS 26) 5
def f_Ground_is_member : FnI := ⟨["self", "value"], ["self", "value"], defBody s_Ground_is_member, defScope s_Ground_is_member, []⟩
def d_Ground_is_member : He.DefD := ⟨("Ground", some "is_member"), "is_member", "Ground.is_member", defArgs s_Ground_is_member, defBody s_Ground_is_member, defScope s_Ground_is_member, [], []⟩
def s_taken : Stmt := topS 27
def f_taken : FnI := ⟨["ground", "item"], ["ground", "item"], defBody s_taken, defScope s_taken, []⟩
def d_taken : He.DefD := ⟨("taken", none), "taken", "taken", defArgs s_taken, defBody s_taken, defScope s_taken, [], []⟩
def s_Polyu_initu : Stmt := inClass (topS 31) 0
def f_Polyu_initu : FnI := ⟨["self", "ground", "row"], ["self", "ground", "row", "numbers", "item"], defBody s_Polyu_initu, defScope s_Polyu_initu, []⟩
def d_Polyu_initu : He.DefD := ⟨("Poly", some "__init__"), "__init__", "Poly.__init__", defArgs s_Polyu_initu, defBody s_Polyu_initu, defScope s_Polyu_initu, [], []⟩
def s_Polyu_addu : Stmt := inClass (topS 31) 1
def f_Polyu_addu : FnI := ⟨["self", "other"], ["self", "other", "length", "k"], defBody s_Polyu_addu, defScope s_Polyu_addu, []⟩
def d_Polyu_addu : He.DefD := ⟨("Poly", some "__add__"), "__add__", "Poly.__add__", defArgs s_Polyu_addu, defBody s_Polyu_addu, defScope s_Polyu_addu, [], []⟩
def s_Polyu_mulu : Stmt := inClass (topS 31) 3
def f_Polyu_mulu : FnI := ⟨["self", "other"], ["self", "other", "zero", "numbers", "_", "i", "x", "k", "y"], defBody s_Polyu_mulu, defScope s_Polyu_mulu, []⟩
def d_Polyu_mulu : He.DefD := ⟨("Poly", some "__mul__"), "__mul__", "Poly.__mul__", defArgs s_Polyu_mulu, defBody s_Polyu_mulu, defScope s_Polyu_mulu, [], []⟩
def s_Polyu_floordivu : Stmt := inClass (topS 31) 5
def f_Polyu_floordivu : FnI := ⟨["self", "other"], ["self", "other"], defBody s_Polyu_floordivu, defScope s_Polyu_floordivu, []⟩
def d_Polyu_floordivu : He.DefD := ⟨("Poly", some "__floordiv__"), "__floordiv__", "Poly.__floordiv__", defArgs s_Polyu_floordivu, defBody s_Polyu_floordivu, defScope s_Polyu_floordivu, [], []⟩
def s_Polyu_modu : Stmt := inClass (topS 31) 6
def f_Polyu_modu : FnI := ⟨["self", "other"], ["self", "other"], defBody s_Polyu_modu, defScope s_Polyu_modu, []⟩
def d_Polyu_modu : He.DefD := ⟨("Poly", some "__mod__"), "__mod__", "Poly.__mod__", defArgs s_Polyu_modu, defBody s_Polyu_modu, defScope s_Polyu_modu, [], []⟩
def s_Polyu_equ : Stmt := inClass (topS 31) 7
def f_Polyu_equ : FnI := ⟨["self", "other"], ["self", "other"], defBody s_Polyu_equ, defScope s_Polyu_equ, []⟩
def d_Polyu_equ : He.DefD := ⟨("Poly", some "__eq__"), "__eq__", "Poly.__eq__", defArgs s_Polyu_equ, defBody s_Polyu_equ, defScope s_Polyu_equ, [], []⟩
def s_Poly_degree : Stmt := inClass (topS 31) 10
def f_Poly_degree : FnI := ⟨["self"], ["self"], defBody s_Poly_degree, defScope s_Poly_degree, []⟩
def d_Poly_degree : He.DefD := ⟨("Poly", some "degree"), "degree", "Poly.degree", defArgs s_Poly_degree, defBody s_Poly_degree, defScope s_Poly_degree, [], []⟩
def s_Poly_is_zero : Stmt := inClass (topS 31) 11
def f_Poly_is_zero : FnI := ⟨["self"], ["self"], defBody s_Poly_is_zero, defScope s_Poly_is_zero, []⟩
def d_Poly_is_zero : He.DefD := ⟨("Poly", some "is_zero"), "is_zero", "Poly.is_zero", defArgs s_Poly_is_zero, defBody s_Poly_is_zero, defScope s_Poly_is_zero, [], []⟩
def s_Poly_coefficient : Stmt := inClass (topS 31) 12
def f_Poly_coefficient : FnI := ⟨["self", "k"], ["self", "k"], defBody s_Poly_coefficient, defScope s_Poly_coefficient, []⟩
def d_Poly_coefficient : He.DefD := ⟨("Poly", some "coefficient"), "coefficient", "Poly.coefficient", defArgs s_Poly_coefficient, defBody s_Poly_coefficient, defScope s_Poly_coefficient, [], []⟩
def s_Poly_scaled : Stmt := inClass (topS 31) 13
def f_Poly_scaled : FnI := ⟨["self", "c"], ["self", "c", "x"], defBody s_Poly_scaled, defScope s_Poly_scaled, []⟩
def d_Poly_scaled : He.DefD := ⟨("Poly", some "scaled"), "scaled", "Poly.scaled", defArgs s_Poly_scaled, defBody s_Poly_scaled, defScope s_Poly_scaled, [], []⟩
def s_Poly_monic : Stmt := inClass (topS 31) 14
def f_Poly_monic : FnI := ⟨["self"], ["self"], defBody s_Poly_monic, defScope s_Poly_monic, []⟩
def d_Poly_monic : He.DefD := ⟨("Poly", some "monic"), "monic", "Poly.monic", defArgs s_Poly_monic, defBody s_Poly_monic, defScope s_Poly_monic, [], []⟩
def s_require_like : Stmt := topS 32
def f_require_like : FnI := ⟨["f", "g"], ["f", "g"], defBody s_require_like, defScope s_require_like, []⟩
def d_require_like : He.DefD := ⟨("require_like", none), "require_like", "require_like", defArgs s_require_like, defBody s_require_like, defScope s_require_like, [], []⟩
def s__divided : Stmt := topS 33
def f__divided : FnI := ⟨["f", "g"], ["f", "g", "factor", "numbers", "quotient", "c", "shift", "k"], defBody s__divided, defScope s__divided, []⟩
def d__divided : He.DefD := ⟨("_divided", none), "_divided", "_divided", defArgs s__divided, defBody s__divided, defScope s__divided, [], []⟩
def s__law_numbers : Stmt := topS 36
def f__law_numbers : FnI := ⟨["script"], ["script", "found", "k", "cell", "turn", "i", "mixed"], defBody s__law_numbers, defScope s__law_numbers, []⟩
def d__law_numbers : He.DefD := ⟨("_law_numbers", none), "_law_numbers", "_law_numbers", defArgs s__law_numbers, defBody s__law_numbers, defScope s__law_numbers, [], []⟩
def s__law_next : Stmt := topS 37
def f__law_next : FnI := ⟨["numbers", "many"], ["numbers", "many"], defBody s__law_next, defScope s__law_next, []⟩
def d__law_next : He.DefD := ⟨("_law_next", none), "_law_next", "_law_next", defArgs s__law_next, defBody s__law_next, defScope s__law_next, [], []⟩
def s__law_prime : Stmt := topS 38
def f__law_prime : FnI := ⟨["numbers"], ["numbers"], defBody s__law_prime, defScope s__law_prime, []⟩
def d__law_prime : He.DefD := ⟨("_law_prime", none), "_law_prime", "_law_prime", defArgs s__law_prime, defBody s__law_prime, defScope s__law_prime, [], []⟩
def s__law_ground : Stmt := topS 39
def f__law_ground : FnI := ⟨["p"], ["p"], defBody s__law_ground, defScope s__law_ground, []⟩
def d__law_ground : He.DefD := ⟨("_law_ground", none), "_law_ground", "_law_ground", defArgs s__law_ground, defBody s__law_ground, defScope s__law_ground, [], []⟩
def s__law_rest : Stmt := topS 40
def f__law_rest : FnI := ⟨["p", "x"], ["p", "x"], defBody s__law_rest, defScope s__law_rest, []⟩
def d__law_rest : He.DefD := ⟨("_law_rest", none), "_law_rest", "_law_rest", defArgs s__law_rest, defBody s__law_rest, defScope s__law_rest, [], []⟩
def s__law_trim : Stmt := topS 41
def f__law_trim : FnI := ⟨["row"], ["row"], defBody s__law_trim, defScope s__law_trim, []⟩
def d__law_trim : He.DefD := ⟨("_law_trim", none), "_law_trim", "_law_trim", defArgs s__law_trim, defBody s__law_trim, defScope s__law_trim, [], []⟩
def s__law_row : Stmt := topS 42
def f__law_row : FnI := ⟨["numbers", "p", "most"], ["numbers", "p", "most", "k"], defBody s__law_row, defScope s__law_row, []⟩
def d__law_row : He.DefD := ⟨("_law_row", none), "_law_row", "_law_row", defArgs s__law_row, defBody s__law_row, defScope s__law_row, [], []⟩
def s__law_poly : Stmt := topS 43
def f__law_poly : FnI := ⟨["ground", "row"], ["ground", "row", "c"], defBody s__law_poly, defScope s__law_poly, []⟩
def d__law_poly : He.DefD := ⟨("_law_poly", none), "_law_poly", "_law_poly", defArgs s__law_poly, defBody s__law_poly, defScope s__law_poly, [], []⟩
def s__law_refuses : Stmt := topS 44
def f__law_refuses : FnI := ⟨["f", "g"], ["f", "g", "told"], defBody s__law_refuses, defScope s__law_refuses, []⟩
def d__law_refuses : He.DefD := ⟨("_law_refuses", none), "_law_refuses", "_law_refuses", defArgs s__law_refuses, defBody s__law_refuses, defScope s__law_refuses, [], []⟩
def s_law : Stmt := topS 45
def f_law : FnI := ⟨["script"], ["script", "numbers", "p", "ground", "f", "g", "zero", "own"], defBody s_law, defScope s_law, []⟩
def d_law : He.DefD := ⟨("law", none), "law", "law", defArgs s_law, defBody s_law, defScope s_law, [], []⟩
def fn : List He.DefD := [d_powered, d_is_integer, d_Ratiou_initu, d_Ratiou_addu, d_Ratiou_subu, d_Ratiou_mulu, d_Ratiou_equ, d_Ratio_is_zero, d_Ratio_inverse, d__require_ratio, d_is_small_prime, d_Residueu_initu, d_Residueu_addu, d_Residueu_subu, d_Residueu_mulu, d_Residueu_equ, d_Residue_is_zero, d_Residue_inverse, d_Residue_power, d__require_like, d_Groundu_initu, d_Groundu_equ, d_Ground_number, d_Ground_zero, d_Ground_one, d_Ground_is_member, d_taken, d_Polyu_initu, d_Polyu_addu, d_Polyu_mulu, d_Polyu_floordivu, d_Polyu_modu, d_Polyu_equ, d_Poly_degree, d_Poly_is_zero, d_Poly_coefficient, d_Poly_scaled, d_Poly_monic, d_require_like, d__divided, d__law_numbers, d__law_next, d__law_prime, d__law_ground, d__law_rest, d__law_trim, d__law_row, d__law_poly, d__law_refuses, d_law]
def fns : List (Str × FnI) := ("powered", f_powered) :: ("is_integer", f_is_integer) :: ("_require_ratio", f__require_ratio) :: ("is_small_prime", f_is_small_prime) :: ("_require_like", f__require_like) :: ("taken", f_taken) :: ("require_like", f_require_like) :: ("_divided", f__divided) :: ("_law_numbers", f__law_numbers) :: ("_law_next", f__law_next) :: ("_law_prime", f__law_prime) :: ("_law_ground", f__law_ground) :: ("_law_rest", f__law_rest) :: ("_law_trim", f__law_trim) :: ("_law_row", f__law_row) :: ("_law_poly", f__law_poly) :: ("_law_refuses", f__law_refuses) :: []
def mts : List ((Str × Str) × FnI) := (("Ratio", "__init__"), f_Ratiou_initu) :: (("Ratio", "__add__"), f_Ratiou_addu) :: (("Ratio", "__sub__"), f_Ratiou_subu) :: (("Ratio", "__mul__"), f_Ratiou_mulu) :: (("Ratio", "__eq__"), f_Ratiou_equ) :: (("Ratio", "is_zero"), f_Ratio_is_zero) :: (("Ratio", "inverse"), f_Ratio_inverse) :: (("Residue", "__init__"), f_Residueu_initu) :: (("Residue", "__add__"), f_Residueu_addu) :: (("Residue", "__sub__"), f_Residueu_subu) :: (("Residue", "__mul__"), f_Residueu_mulu) :: (("Residue", "__eq__"), f_Residueu_equ) :: (("Residue", "is_zero"), f_Residue_is_zero) :: (("Residue", "inverse"), f_Residue_inverse) :: (("Residue", "power"), f_Residue_power) :: (("Ground", "__init__"), f_Groundu_initu) :: (("Ground", "__eq__"), f_Groundu_equ) :: (("Ground", "number"), f_Ground_number) :: (("Ground", "zero"), f_Ground_zero) :: (("Ground", "one"), f_Ground_one) :: (("Ground", "is_member"), f_Ground_is_member) :: (("Poly", "__init__"), f_Polyu_initu) :: (("Poly", "__add__"), f_Polyu_addu) :: (("Poly", "__mul__"), f_Polyu_mulu) :: (("Poly", "__floordiv__"), f_Polyu_floordivu) :: (("Poly", "__mod__"), f_Polyu_modu) :: (("Poly", "__eq__"), f_Polyu_equ) :: (("Poly", "degree"), f_Poly_degree) :: (("Poly", "is_zero"), f_Poly_is_zero) :: (("Poly", "coefficient"), f_Poly_coefficient) :: (("Poly", "scaled"), f_Poly_scaled) :: (("Poly", "monic"), f_Poly_monic) :: []
def S : StD where
  kinds := ("gcd", .imp "math.gcd") :: ("ZeroDivisor", .exc) :: ("Malformed", .exc) :: ("powered", .fn) :: ("is_integer", .fn) :: ("Ratio", .cls) :: ("_require_ratio", .fn) :: ("_PRIMES", .tupI [2, 3, 5, 7, 11, 13, 17, 19, 23, 29, 31]) :: ("is_small_prime", .fn) :: ("Residue", .cls) :: ("_require_like", .fn) :: ("Ground", .cls) :: ("taken", .fn) :: ("Poly", .cls) :: ("require_like", .fn) :: ("_divided", .fn) :: ("_law_numbers", .fn) :: ("_law_next", .fnN) :: ("_law_prime", .fnN) :: ("_law_ground", .fn) :: ("_law_rest", .fn) :: ("_law_trim", .fn) :: ("_law_row", .fnN) :: ("_law_poly", .fn) :: ("_law_refuses", .fn) :: ("abs", .blt) :: ("bool", .blt) :: ("enumerate", .blt) :: ("int", .blt) :: ("isinstance", .blt) :: ("len", .blt) :: ("list", .blt) :: ("max", .blt) :: ("min", .blt) :: ("range", .blt) :: ("tuple", .blt) :: []
  fns := fns
  mts := mts
  cls := ["Ratio", "Residue", "Ground", "Poly"]
  flds := [("Ratio", "n"), ("Ratio", "d"), ("Residue", "p"), ("Residue", "n"), ("Ground", "p"), ("Poly", "ground"), ("Poly", "row")]
  exm := [(("ZeroDivisor", "ZeroDivisor"), true), (("Malformed", "ZeroDivisor"), false)]
def ex (K : PySem.W.Frag) : Bool := statB K S
abbrev R : PySem.W.OpenRow := PySem.W.OpenLaw.row PySem.Challenge.rw_similarforms_k08_division
abbrev qv : Program := PySem.W.view R.prog [0, 45]
def names : List Str := [("_wall" : Str), ("Fault" : Str), ("ZeroDivisor" : Str), ("Malformed" : Str), ("Refused" : Str), ("NoText" : Str), ("_LENGTH" : Str), ("_PIECE" : Str), ("digits_of" : Str), ("natural_with" : Str), ("integer_with" : Str), ("powered" : Str), ("is_integer" : Str), ("Ratio" : Str), ("_require_ratio" : Str), ("_PRIMES" : Str), ("is_small_prime" : Str), ("Residue" : Str), ("_require_like" : Str), ("Ground" : Str), ("taken" : Str), ("_ratio_with" : Str), ("_member_with" : Str), ("Poly" : Str), ("require_like" : Str), ("_divided" : Str), ("_term" : Str), ("_law_numbers" : Str), ("_law_next" : Str), ("_law_prime" : Str), ("_law_ground" : Str), ("_law_rest" : Str), ("_law_trim" : Str), ("_law_row" : Str), ("_law_poly" : Str), ("_law_refuses" : Str)]
abbrev hk : PySem.W.Hook := He.hookX 6 [] fn [] [] ex
def ob (s : PySem.W.SharedT) : He.AlX := He.obsX 6 [] fn [] [] ex (HandSHeadRun.getT s)
theorem ob_eq (s : PySem.W.SharedT) : ob s = hk.obs s.abs := He.obsX_eq (HandSHeadRun.getT_eq s)
theorem both {α β γ δ : Type} {o : Option α} {f : α → β} {g : α → γ} {k : α → δ} {a : β} {b : γ} {c : δ} (h1 : o.map (fun x => (f x, g x)) = some (a, b)) (h2 : o.map k = some c) : o.map (fun x => (f x, g x, k x)) = some (a, b, c) := by
  cases o with
  | none => cases h1
  | some x =>
    have e1 := Option.some.inj h1
    have e2 := Option.some.inj h2
    have e3 : f x = a := congrArg Prod.fst e1
    have e4 : g x = b := congrArg Prod.snd e1
    subst e3 e4 e2
    rfl
open PySem PySem.W PySem.Calls PyProof.Rows HandSHeadRun in
theorem run_a (w : World) : (HandSHeadRun.wholeF (fun p => HandSHeadRun.stepQ (HandSHeadRun.denQ HandSHeadRun.tabQ) p w) HandSHeadRun.fenceQ 9000 R.prog).map (fun x => (looksF R.prog x.1.heap x.2.abs, seenQ qv names (importedModules R.prog.main.body) (fun s => xlAt qv [] s && recOk R.toRowW.records s) x.2.abs)) = some (true, openGood qv names) := by kernel_rfl
theorem run_b (w : World) : (HandSHeadRun.wholeF (fun p => HandSHeadRun.stepQ (HandSHeadRun.denQ HandSHeadRun.tabQ) p w) HandSHeadRun.fenceQ 9000 R.prog).map (fun x => ob x.2) = some (hk.val w) := by kernel_rfl
theorem run (w : World) : HandSHeadRun.RunEqI R qv hk ob 9000 names w := by
  unfold HandSHeadRun.RunEqI
  exact both (run_a w) (run_b w)
end D08
namespace Sf
open PySem L2

/-- what a value is, without the heap -/
inductive Dat where
  | v (x : V)
  | lst (xs : List Dat)
  | rol (xs : List Dat)
  | tup (xs : List Dat)
  | ins (C : Str) (ks : List Str) (xs : List Dat)
/-- an exception of the program's own: its class, its fields (none: no own __init__) -/
structure Exn where
  cls : Str
  ks : List Str := []
  ds : List Dat := []
abbrev dI (i : Int) : Dat := .v (.int i)
abbrev dB (b : Bool) : Dat := .v (.bl b)
abbrev dS (x : Str) : Dat := .v (.str x)
abbrev dN : Dat := .v .non

def Ex (H H' : Hp) : Prop := ∀ a o, H a = some o → H' a = some o
theorem Ex.refl (H : Hp) : Ex H H := fun _ _ h => h
theorem Ex.trans {H H1 H2 : Hp} (a : Ex H H1) (b : Ex H1 H2) : Ex H H2 := fun c o h => b c o (a c o h)
theorem Ex.sqt {K : PySem.W.Frag} {H H' : Hp} {a : Addr} {xs : List V} (e : Ex H H') (h : SqT K H a xs) : SqT K H' a xs :=
  h.elim (fun h => .inl (h.elim (fun h => .inl (e _ _ h)) fun ⟨o, h⟩ => .inr ⟨o, e _ _ h⟩)) fun h => .inr h
theorem Ex.sql {K : PySem.W.Frag} {H H' : Hp} {a : Addr} {xs : List V} (e : Ex H H') (h : SqL K H a xs) : SqL K H' a xs :=
  h.elim (fun h => .inl (h.elim (fun h => .inl (e _ _ h)) fun ⟨o, h⟩ => .inr ⟨o, e _ _ h⟩)) fun h => .inr h

mutual
inductive Is (K : PySem.W.Frag) : Dat → V → Hp → Prop where
  | v {x : V} {F : Hp} : Is K (.v x) x F
  | lst {a : Addr} {ds : List Dat} {vs : List V} {F : Hp} (h : F a = some (.lst vs)) (hs : Isl K ds vs F) : Is K (.lst ds) (.ref a) F
  | rol {a : Addr} {ds : List Dat} {vs : List V} {F : Hp} (h : SqL K F a vs) (hs : Isl K ds vs F) : Is K (.rol ds) (.ref a) F
  | tup {a : Addr} {ds : List Dat} {vs : List V} {F : Hp} (h : SqT K F a vs) (hs : Isl K ds vs F) : Is K (.tup ds) (.ref a) F
  | ins {a dx : Addr} {C : Str} {ks : List Str} {ds : List Dat} {vs : List V} {F : Hp} (h : F a = some (.ins (He.ga K C) dx (ks.zip vs))) (hl : ks.length = vs.length) (hs : Isl K ds vs F) : Is K (.ins C ks ds) (.ref a) F
inductive Isl (K : PySem.W.Frag) : List Dat → List V → Hp → Prop where
  | nil {F : Hp} : Isl K [] [] F
  | cons {d : Dat} {ds : List Dat} {x : V} {xs : List V} {F : Hp} (h : Is K d x F) (hs : Isl K ds xs F) : Isl K (d :: ds) (x :: xs) F
end

section
variable {K : PySem.W.Frag} {F F' H H' : Hp} {d : Dat} {ds : List Dat} {x : V} {xs : List V}
mutual
theorem Is.mono {F F' : Hp} (e : Ex F F') : ∀ {d : Dat} {x : V}, Is K d x F → Is K d x F'
  | _, _, .v => .v
  | _, _, .lst h hs => .lst (e _ _ h) (Isl.mono e hs)
  | _, _, .rol h hs => .rol (e.sql h) (Isl.mono e hs)
  | _, _, .tup h hs => .tup (e.sqt h) (Isl.mono e hs)
  | _, _, .ins h hl hs => .ins (e _ _ h) hl (Isl.mono e hs)
theorem Isl.mono {F F' : Hp} (e : Ex F F') : ∀ {ds : List Dat} {xs : List V}, Isl K ds xs F → Isl K ds xs F'
  | _, _, .nil => .nil
  | _, _, .cons h hs => .cons (Is.mono e h) (Isl.mono e hs)
end
theorem Isl.length : ∀ {ds : List Dat} {xs : List V}, Isl K ds xs F → ds.length = xs.length
  | _, _, .nil => rfl
  | _, _, .cons h hs => by rw [List.length_cons, List.length_cons, Isl.length hs]
theorem Isl.get : ∀ {ds : List Dat} {xs : List V} {i : Nat} {d : Dat}, Isl K ds xs F → ds[i]? = some d → ∃ x, xs[i]? = some x ∧ Is K d x F
  | _, _, _, _, .nil, e => by simp at e
  | _, _, 0, _, .cons h hs, e => by simp at e; subst e; exact ⟨_, rfl, h⟩
  | _, _, i + 1, _, .cons h hs, e => by
    obtain ⟨x, h1, h2⟩ := Isl.get (i := i) hs (by simpa using e)
    exact ⟨x, by simpa using h1, h2⟩
theorem Isl.get' : ∀ {ds : List Dat} {xs : List V} {i : Nat} {x : V}, Isl K ds xs F → xs[i]? = some x → ∃ d, ds[i]? = some d ∧ Is K d x F
  | _, _, _, _, .nil, e => by simp at e
  | _, _, 0, _, .cons h hs, e => by simp at e; subst e; exact ⟨_, rfl, h⟩
  | _, _, i + 1, _, .cons h hs, e => by
    obtain ⟨x, h1, h2⟩ := Isl.get' (i := i) hs (by simpa using e)
    exact ⟨x, by simpa using h1, h2⟩
theorem Isl.append : ∀ {ds es : List Dat} {xs ys : List V}, Isl K ds xs F → Isl K es ys F → Isl K (ds ++ es) (xs ++ ys) F
  | _, _, _, _, .nil, h => h
  | _, _, _, _, .cons a b, h => .cons a (Isl.append b h)
/-- a flat datum is its value -/
theorem is_v {v x : V} (h : Is K (.v v) x F) : x = v := by cases h; rfl
end

/-! ### the state of a def: na: the one list that a caller lent; (F0, H0) the entry; F: the part that never changes -/
structure Cur (na : Option Addr) (F0 H0 F H : Hp) : Prop where
  ff : Ex F0 F
  hh : ∀ a o, na ≠ some a → H0 a = some o → H a = some o
  fh : Ex F H
  pr : ∀ a o, H0 a = some o → F0 a = none → F a = none
  lv : ∀ a, na = some a → (∃ o, H a = some o) ∧ F a = none
  nz : ∀ a, na = some a → ∃ o, H0 a = some o
theorem Cur.start {F H : Hp} (e : Ex F H) : Cur none F H F H := ⟨.refl _, fun _ _ _ h => h, e, fun _ _ _ h => h, (fun _ h => nomatch h), (fun _ h => nomatch h)⟩
theorem Cur.startN {F H : Hp} {a : Addr} {o : HO} (e : Ex F H) (ha : H a = some o) (hf : F a = none) : Cur (some a) F H F H := ⟨.refl _, fun _ _ _ h => h, e, fun _ _ _ h => h, fun b h => by cases h; exact ⟨⟨o, ha⟩, hf⟩, fun b h => by cases h; exact ⟨o, ha⟩⟩

inductive Sl where
  | no
  | pu (d : Dat)
  | ow (l : Bool) (ds : List Dat)
  | ob (C : Str) (ks : List Str) (ds : List Dat)

structure Env1 (K : PySem.W.Frag) (ρ : List Sl) (σ : L2.St) (na : Option Addr) (H0 F H : Hp) : Prop where
  pu : ∀ (i : Nat) (d : Dat), ρ[i]? = some (Sl.pu d) → ∃ v, σ[i]? = some (some v) ∧ Is K d v F
  ow : ∀ (i : Nat) (l : Bool) (ds : List Dat), ρ[i]? = some (Sl.ow l ds) → ∃ a vs, σ[i]? = some (some (V.ref a)) ∧ F a = none ∧ H a = some (HO.lst vs) ∧ Isl K ds vs F ∧ (l = true → na = some a) ∧ (l = false → H0 a = none)
  ob : ∀ (i : Nat) (C : Str) (ks : List Str) (ds : List Dat), ρ[i]? = some (Sl.ob C ks ds) → ∃ a dx vs, σ[i]? = some (some (V.ref a)) ∧ na = some a ∧ F a = none ∧ H a = some (HO.ins (He.ga K C) dx (ks.zip vs)) ∧ ks.length = vs.length ∧ Isl K ds vs F
  ap : ∀ (i j : Nat) (l m : Bool) (ds es : List Dat) (a : Addr), ρ[i]? = some (Sl.ow l ds) → ρ[j]? = some (Sl.ow m es) → σ[i]? = some (some (V.ref a)) → σ[j]? = some (some (V.ref a)) → i = j
  ao : ∀ (i j : Nat) (C D : Str) (ks ls : List Str) (ds es : List Dat), ρ[i]? = some (Sl.ob C ks ds) → ρ[j]? = some (Sl.ob D ls es) → i = j
  ln : ρ.length = σ.length

/-- from (F, H) to (F', H') by what only makes objects -/
structure Stp (F H F' H' : Hp) : Prop where
  ff : Ex F F'
  hh : Ex H H'
  fh : Ex F' H'
  pr : ∀ a o, H a = some o → F a = none → F' a = none
theorem Stp.refl {F H : Hp} (e : Ex F H) : Stp F H F H := ⟨.refl _, .refl _, e, fun _ _ _ h => h⟩
theorem Stp.trans {F H F1 H1 F2 H2 : Hp} (a : Stp F H F1 H1) (b : Stp F1 H1 F2 H2) : Stp F H F2 H2 :=
  ⟨a.ff.trans b.ff, a.hh.trans b.hh, b.fh, fun c o h1 h2 => b.pr c o (a.hh c o h1) (a.pr c o h1 h2)⟩
theorem fnone {F H : Hp} {p : Addr} (e : Ex F H) (hp : H p = none) : F p = none := by
  cases q : F p with
  | none => rfl
  | some u => rw [e p u q] at hp; cases hp
theorem Stp.new {F H : Hp} {p : Addr} {o : HO} (e : Ex F H) (hp : H p = none) : Stp F H (upd F p o) (upd H p o) := by
  have fp : F p = none := fnone e hp
  refine ⟨fun a u h => ?_, fun a u h => ?_, fun a u h => ?_, fun a u h1 h2 => ?_⟩
  · rw [upd_ne (ne_of_none h fp)]; exact h
  · rw [upd_ne (ne_of_none h hp)]; exact h
  · by_cases q : a = p
    · subst q; rw [upd_same] at h ⊢; exact h
    · rw [upd_ne q] at h ⊢; exact e a u h
  · rw [upd_ne (ne_of_none h1 hp)]; exact h2
/-- something new that nobody looks at -/
theorem Stp.junk {F H : Hp} {p : Addr} {o : HO} (e : Ex F H) (hp : H p = none) : Stp F H F (upd H p o) := by
  refine ⟨.refl _, fun a u h => ?_, fun a u h => ?_, fun _ _ _ h => h⟩
  · rw [upd_ne (ne_of_none h hp)]; exact h
  · rw [upd_ne (ne_of_none (e a u h) hp)]; exact e a u h
theorem Cur.stp {na : Option Addr} {F0 H0 F H F' H' : Hp} (c : Cur na F0 H0 F H) (s : Stp F H F' H') : Cur na F0 H0 F' H' :=
  ⟨c.ff.trans s.ff, fun a o n h => s.hh a o (c.hh a o n h), s.fh, fun a o h1 h2 => by
    by_cases q : na = some a
    · obtain ⟨⟨u, hu⟩, hf⟩ := c.lv a q
      exact s.pr a u hu hf
    · exact s.pr a o (c.hh a o q h1) (c.pr a o h1 h2), fun a q => by
    obtain ⟨⟨u, hu⟩, hf⟩ := c.lv a q
    exact ⟨⟨u, s.hh a u hu⟩, s.pr a u hu hf⟩, c.nz⟩
section
variable {K : PySem.W.Frag} {ρ : List Sl} {σ : L2.St} {na : Option Addr} {F0 H0 F H F' H' : Hp}
theorem Env1.stp (e : Env1 K ρ σ na H0 F H) (s : Stp F H F' H') : Env1 K ρ σ na H0 F' H' :=
  ⟨fun i d h => let ⟨v, h1, h2⟩ := e.pu i d h; ⟨v, h1, h2.mono s.ff⟩, fun i l ds h => let ⟨a, vs, h1, h2, h3, h4, h5⟩ := e.ow i l ds h; ⟨a, vs, h1, s.pr a _ h3 h2, s.hh _ _ h3, h4.mono s.ff, h5⟩,
   fun i C ks ds h => let ⟨a, dx, vs, h1, h2, h3, h4, h5, h6⟩ := e.ob i C ks ds h; ⟨a, dx, vs, h1, h2, s.pr a _ h4 h3, s.hh _ _ h4, h5, h6.mono s.ff⟩, e.ap, e.ao, e.ln⟩
theorem Env1.set {i : Nat} {d : Dat} {v : V} (e : Env1 K ρ σ na H0 F H) (h : Is K d v F) : Env1 K (ρ.set i (.pu d)) (σ.set i (some v)) na H0 F H := by
  have other : ∀ {j : Nat} {s : Sl}, (ρ.set i (.pu d))[j]? = some s → (∀ d', s ≠ .pu d') → ρ[j]? = some s ∧ i ≠ j := fun {j s} h1 h2 => by
    by_cases q : i = j
    · subst q
      rw [List.getElem?_set_self'] at h1
      cases e1 : ρ[i]? with
      | none => rw [e1] at h1; cases h1
      | some z => rw [e1] at h1; cases h1; exact absurd rfl (h2 d)
    · rw [List.getElem?_set_ne q] at h1
      exact ⟨h1, q⟩
  refine ⟨fun j d' h1 => ?_, fun j l ds h1 => ?_, fun j C ks ds h1 => ?_, fun j j' l m ds es a h1 h2 h3 h4 => ?_, fun j j' C D ks ls ds es h1 h2 => e.ao j j' C D ks ls ds es (other h1 (fun _ z => nomatch z)).1 (other h2 (fun _ z => nomatch z)).1, by rw [List.length_set, List.length_set]; exact e.ln⟩
  · by_cases q : i = j
    · subst q
      have hi : i < ρ.length := by
        have := (List.getElem?_eq_some_iff.mp h1).1
        rwa [List.length_set] at this
      have e1 : (ρ.set i (.pu d))[i]? = some (.pu d) := List.getElem?_set_self hi
      rw [e1] at h1
      cases h1
      exact ⟨v, List.getElem?_set_self (by rw [← e.ln]; exact hi), h⟩
    · rw [List.getElem?_set_ne q] at h1 ⊢
      exact e.pu j d' h1
  · obtain ⟨h2, q⟩ := other h1 (fun _ z => nomatch z)
    rw [List.getElem?_set_ne q]
    exact e.ow j l ds h2
  · obtain ⟨h2, q⟩ := other h1 (fun _ z => nomatch z)
    rw [List.getElem?_set_ne q]
    exact e.ob j C ks ds h2
  · obtain ⟨g1, q1⟩ := other h1 (fun _ z => nomatch z)
    obtain ⟨g2, q2⟩ := other h2 (fun _ z => nomatch z)
    rw [List.getElem?_set_ne q1] at h3
    rw [List.getElem?_set_ne q2] at h4
    exact e.ap j j' l m ds es a g1 g2 h3 h4
theorem Cur.re (c : Cur na F0 H0 F H) : Cur na F H0 F H := ⟨.refl _, c.hh, c.fh, fun _ _ _ h => h, c.lv, c.nz⟩
theorem Cur.back (c : Cur na F0 H0 F H) (c' : Cur na F H0 F' H') : Cur na F0 H0 F' H' := ⟨c.ff.trans c'.ff, c'.hh, c'.fh, fun a o h1 h2 => c'.pr a o h1 (c.pr a o h1 h2), c'.lv, c'.nz⟩
end

/-- what an expression gives: a datum; a new list that nobody else knows -/
inductive Rv where
  | pu (d : Dat)
  | fr (ds : List Dat)
def Rv.dat : Rv → Dat
  | .pu d => d
  | .fr ds => .lst ds
/-- no own list of the slots stands at D -/
def NotAt (ρ : List Sl) (σ : L2.St) (D : Addr) : Prop := ∀ (i : Nat) (l : Bool) (ds : List Dat), ρ[i]? = some (.ow l ds) → σ[i]? ≠ some (some (.ref D))
inductive RvA (K : PySem.W.Frag) : Rv → V → Hp → Hp → Hp → Prop where
  | pu {d : Dat} {v : V} {F H H0 : Hp} (h : Is K d v F) : RvA K (.pu d) v F H H0
  | fr {ds : List Dat} {a : Addr} {us : List V} {F H H0 : Hp} (h0 : H0 a = none) (hf : F a = none) (hh : H a = some (.lst us)) (hs : Isl K ds us F) : RvA K (.fr ds) (.ref a) F H H0
inductive RvE (K : PySem.W.Frag) (ρ : List Sl) (σ : L2.St) : Rv → V → Hp → Hp → Hp → Prop where
  | pu {d : Dat} {v : V} {F H H0 : Hp} (h : Is K d v F) : RvE K ρ σ (.pu d) v F H H0
  | fr {ds : List Dat} {a : Addr} {us : List V} {F H H0 : Hp} (h0 : H0 a = none) (hf : F a = none) (hh : H a = some (.lst us)) (hs : Isl K ds us F) (hn : NotAt ρ σ a) : RvE K ρ σ (.fr ds) (.ref a) F H H0
theorem RvE.a {K : PySem.W.Frag} {ρ : List Sl} {σ : L2.St} {r : Rv} {v : V} {F H H0 : Hp} (h : RvE K ρ σ r v F H H0) : RvA K r v F H H0 := by
  cases h with
  | pu h => exact .pu h
  | fr h0 hf hh hs _ => exact .fr h0 hf hh hs
/-! ### judgements -/
abbrev PD := Dat → List Sl → Prop
abbrev PV := Rv → List Sl → Prop
abbrev RX := Exn → List Sl → Prop
/-- an exception at the value and dict that the machine gives it -/
def ExV (K : PySem.W.Frag) (W : Value → Option Addr → Prop) (x : Exn) (F : Hp) : Prop := (x.ks = [] → W (.ref (He.ga K x.cls)) none) ∧ ∀ d vs, x.ks ≠ [] → F d = some (.xd (x.ks.zip vs)) → x.ks.length = vs.length → Isl K x.ds vs F → W (.ref (He.ga K x.cls)) (some d)
/-- what is wished of an exception is told -/
def ExcOk (K : PySem.W.Frag) (W : WX) (R : RX) (na : Option Addr) (F0 H0 : Hp) : Prop := ∀ x ρ σ F H, Cur na F0 H0 F H → Env1 K ρ σ na H0 F H → R x ρ → ExV K (fun u d => W u d σ H) x F
/-- an expression: from the slots ρ it gives a datum and new slots of which P is true, or raises -/
structure WE (X : Cx) (W : WX) (R : RX) (e : Expr) (ρ : List Sl) (P : PD) : Prop where
  run : ∀ (pins : List (Addr × Obj)) (s : Shared) (σ : L2.St) (na : Option Addr) (F0 H0 F H : Hp) (Q : VK), Inv X pins σ H s → Cur na F0 H0 F H → Env1 X.K ρ σ na H0 F H → ExcOk X.K W R na F0 H0 →
    (∀ d v ρ' F' H', Cur na F0 H0 F' H' → Env1 X.K ρ' σ na H0 F' H' → Is X.K d v F' → P d ρ' → Q v H') → wpAny (model X.prog X.w) X.A (eval e X.env) (EP X pins σ Q) X.xe s
/-- .. or a new list -/
structure WV (X : Cx) (W : WX) (R : RX) (e : Expr) (ρ : List Sl) (P : PV) : Prop where
  run : ∀ (pins : List (Addr × Obj)) (s : Shared) (σ : L2.St) (na : Option Addr) (F0 H0 F H : Hp) (Q : VK), Inv X pins σ H s → Cur na F0 H0 F H → Env1 X.K ρ σ na H0 F H → ExcOk X.K W R na F0 H0 →
    (∀ r v ρ' F' H', Cur na F0 H0 F' H' → Env1 X.K ρ' σ na H0 F' H' → RvE X.K ρ' σ r v F' H' H0 → P r ρ' → Q v H') → wpAny (model X.prog X.w) X.A (eval e X.env) (EP X pins σ Q) X.xe s
structure WA (X : Cx) (W : WX) (R : RX) (es : List Expr) (ρ : List Sl) (P : List Dat → List Sl → Prop) : Prop where
  run : ∀ (pos : Pos) (pins : List (Addr × Obj)) (s : Shared) (σ : L2.St) (na : Option Addr) (F0 H0 F H : Hp) (Q : List V → Hp → Prop), Inv X pins σ H s → Cur na F0 H0 F H → Env1 X.K ρ σ na H0 F H → ExcOk X.K W R na F0 H0 →
    (∀ ds vs ρ' F' H', Cur na F0 H0 F' H' → Env1 X.K ρ' σ na H0 F' H' → Isl X.K ds vs F' → P ds ρ' → Q vs H') → wpAny (model X.prog X.w) X.A (spliced (backTo pos (starEach es X.env))) (AP X pins σ Q) X.xe s
/-- a test -/
structure WT (X : Cx) (W : WX) (R : RX) (e : Expr) (ρ : List Sl) (P : Bool → List Sl → Prop) : Prop where
  run : ∀ (pins : List (Addr × Obj)) (s : Shared) (σ : L2.St) (na : Option Addr) (F0 H0 F H : Hp) (Q : Bool → Hp → Prop), Inv X pins σ H s → Cur na F0 H0 F H → Env1 X.K ρ σ na H0 F H → ExcOk X.K W R na F0 H0 →
    (∀ b ρ' F' H', Cur na F0 H0 F' H' → Env1 X.K ρ' σ na H0 F' H' → P b ρ' → Q b H') → wpAny (model X.prog X.w) X.A (isTrue e X.env (eval e X.env)) (TP X pins σ Q) X.xe s
/-- and, or whatever its whole is -/
structure WW (X : Cx) (W : WX) (R : RX) (e : Expr) (ρ : List Sl) (P : Bool → List Sl → Prop) : Prop where
  run : ∀ (whole : Sem Value) (pins : List (Addr × Obj)) (s : Shared) (σ : L2.St) (na : Option Addr) (F0 H0 F H : Hp) (Q : Bool → Hp → Prop), Inv X pins σ H s → Cur na F0 H0 F H → Env1 X.K ρ σ na H0 F H → ExcOk X.K W R na F0 H0 →
    (∀ b ρ' F' H', Cur na F0 H0 F' H' → Env1 X.K ρ' σ na H0 F' H' → P b ρ' → Q b H') → wpAny (model X.prog X.w) X.A (isTrue e X.env whole) (TP X pins σ Q) X.xe s
/-- where a block may end -/
structure Kn where
  nx : List Sl → Prop
  rt : PV
  bk : List Sl → Prop := fun _ => False
  ct : List Sl → Prop := fun _ => False
structure KnOk (K : PySem.W.Frag) (na : Option Addr) (F0 H0 : Hp) (k : Kn) (D : Ends) : Prop where
  nx : ∀ ρ σ F H, Cur na F0 H0 F H → Env1 K ρ σ na H0 F H → k.nx ρ → D.nx σ H
  rt : ∀ r v ρ σ F H, Cur na F0 H0 F H → Env1 K ρ σ na H0 F H → RvA K r v F H H0 → k.rt r ρ → D.rt v H
  bk : ∀ ρ σ F H, Cur na F0 H0 F H → Env1 K ρ σ na H0 F H → k.bk ρ → D.bk σ H
  ct : ∀ ρ σ F H, Cur na F0 H0 F H → Env1 K ρ σ na H0 F H → k.ct ρ → D.ct σ H
structure WS (X : Cx) (W : WX) (R : RX) (st : Stmt) (ρ : List Sl) (k : Kn) : Prop where
  run : ∀ (pins : List (Addr × Obj)) (s : Shared) (σ : L2.St) (na : Option Addr) (F0 H0 F H : Hp) (D : Ends), Inv X pins σ H s → Cur na F0 H0 F H → Env1 X.K ρ σ na H0 F H → ExcOk X.K W R na F0 H0 → KnOk X.K na F0 H0 k D →
    wpAny (model X.prog X.w) X.A (exec st X.env) (SP X pins D) X.xe s
structure WSs (X : Cx) (W : WX) (R : RX) (sts : List Stmt) (ρ : List Sl) (k : Kn) : Prop where
  run : ∀ (pins : List (Addr × Obj)) (s : Shared) (σ : L2.St) (na : Option Addr) (F0 H0 F H : Hp) (D : Ends), Inv X pins σ H s → Cur na F0 H0 F H → Env1 X.K ρ σ na H0 F H → ExcOk X.K W R na F0 H0 → KnOk X.K na F0 H0 k D →
    wpAny (model X.prog X.w) X.A (execs sts X.env) (SP X pins D) X.xe s

theorem ExcOk.re {K : PySem.W.Frag} {W : WX} {R : RX} {na : Option Addr} {F0 H0 F H : Hp} (x : ExcOk K W R na F0 H0) (c : Cur na F0 H0 F H) : ExcOk K W R na F H0 := fun z ρ σ F' H' c' n' r => x z ρ σ F' H' (c.back c') n' r
theorem KnOk.re {K : PySem.W.Frag} {k : Kn} {D : Ends} {na : Option Addr} {F0 H0 F H : Hp} (x : KnOk K na F0 H0 k D) (c : Cur na F0 H0 F H) : KnOk K na F H0 k D :=
  ⟨fun ρ σ F' H' c' => x.nx ρ σ F' H' (c.back c'), fun r v ρ σ F' H' c' => x.rt r v ρ σ F' H' (c.back c'), fun ρ σ F' H' c' => x.bk ρ σ F' H' (c.back c'), fun ρ σ F' H' c' => x.ct ρ σ F' H' (c.back c')⟩

/-! ### the universal readings: what a judgement says, as a reading -/
def tU (X : Cx) (W : WX) (e : Expr) : TE := fun σ H Q => ∃ ρ P R na F0 H0 F, WE X W R e ρ P ∧ Cur na F0 H0 F H ∧ Env1 X.K ρ σ na H0 F H ∧ ExcOk X.K W R na F0 H0 ∧
  ∀ d v ρ' F' H', Cur na F0 H0 F' H' → Env1 X.K ρ' σ na H0 F' H' → Is X.K d v F' → P d ρ' → Q v H'
def tUV (X : Cx) (W : WX) (e : Expr) : TE := fun σ H Q => ∃ ρ P R na F0 H0 F, WV X W R e ρ P ∧ Cur na F0 H0 F H ∧ Env1 X.K ρ σ na H0 F H ∧ ExcOk X.K W R na F0 H0 ∧
  ∀ r v ρ' F' H', Cur na F0 H0 F' H' → Env1 X.K ρ' σ na H0 F' H' → RvE X.K ρ' σ r v F' H' H0 → P r ρ' → Q v H'
def tUA (X : Cx) (W : WX) (es : List Expr) : TA := fun σ H Q => ∃ ρ P R na F0 H0 F, WA X W R es ρ P ∧ Cur na F0 H0 F H ∧ Env1 X.K ρ σ na H0 F H ∧ ExcOk X.K W R na F0 H0 ∧
  ∀ ds vs ρ' F' H', Cur na F0 H0 F' H' → Env1 X.K ρ' σ na H0 F' H' → Isl X.K ds vs F' → P ds ρ' → Q vs H'
def tUT (X : Cx) (W : WX) (e : Expr) : TT := fun σ H Q => ∃ ρ P R na F0 H0 F, WT X W R e ρ P ∧ Cur na F0 H0 F H ∧ Env1 X.K ρ σ na H0 F H ∧ ExcOk X.K W R na F0 H0 ∧
  ∀ b ρ' F' H', Cur na F0 H0 F' H' → Env1 X.K ρ' σ na H0 F' H' → P b ρ' → Q b H'
def tUW (X : Cx) (W : WX) (e : Expr) : TT := fun σ H Q => ∃ ρ P R na F0 H0 F, WW X W R e ρ P ∧ Cur na F0 H0 F H ∧ Env1 X.K ρ σ na H0 F H ∧ ExcOk X.K W R na F0 H0 ∧
  ∀ b ρ' F' H', Cur na F0 H0 F' H' → Env1 X.K ρ' σ na H0 F' H' → P b ρ' → Q b H'
def tUS (X : Cx) (W : WX) (st : Stmt) : TS := fun D σ H => ∃ ρ k R na F0 H0 F, WS X W R st ρ k ∧ Cur na F0 H0 F H ∧ Env1 X.K ρ σ na H0 F H ∧ ExcOk X.K W R na F0 H0 ∧ KnOk X.K na F0 H0 k D
def tUSs (X : Cx) (W : WX) (sts : List Stmt) : TS := fun D σ H => ∃ ρ k R na F0 H0 F, WSs X W R sts ρ k ∧ Cur na F0 H0 F H ∧ Env1 X.K ρ σ na H0 F H ∧ ExcOk X.K W R na F0 H0 ∧ KnOk X.K na F0 H0 k D
section
variable {X : Cx} {W : WX} {R : RX} {e a b : Expr} {es : List Expr} {st : Stmt} {sts : List Stmt} {ρ : List Sl} {P : PD} {k : Kn}
theorem pe_U : PE X e (tU X W e) := ⟨fun pins s σ H Q I ⟨ρ, P, R, na, F0, H0, F, w, c, n, x, q⟩ => w.run pins s σ na F0 H0 F H Q I c n x q⟩
theorem pe_V : PE X e (tUV X W e) := ⟨fun pins s σ H Q I ⟨ρ, P, R, na, F0, H0, F, w, c, n, x, q⟩ => w.run pins s σ na F0 H0 F H Q I c n x q⟩
theorem pa_U : PA X es (tUA X W es) := ⟨fun pos pins s σ H Q I ⟨ρ, P, R, na, F0, H0, F, w, c, n, x, q⟩ => w.run pos pins s σ na F0 H0 F H Q I c n x q⟩
theorem pt_U : PT X e (tUT X W e) := ⟨fun pins s σ H Q I ⟨ρ, P, R, na, F0, H0, F, w, c, n, x, q⟩ => w.run pins s σ na F0 H0 F H Q I c n x q⟩
theorem pw_U : PW X e (tUW X W e) := ⟨fun wh pins s σ H Q I ⟨ρ, P, R, na, F0, H0, F, w, c, n, x, q⟩ => w.run wh pins s σ na F0 H0 F H Q I c n x q⟩
theorem ps_U : PS X st (tUS X W st) := ⟨fun pins s σ H D I ⟨ρ, P, R, na, F0, H0, F, w, c, n, x, q⟩ => w.run pins s σ na F0 H0 F H D I c n x q⟩
theorem pss_U : PSs X sts (tUSs X W sts) := ⟨fun pins s σ H D I ⟨ρ, P, R, na, F0, H0, F, w, c, n, x, q⟩ => w.run pins s σ na F0 H0 F H D I c n x q⟩
theorem WE.of {t : TE} (h : PE X e t) (ht : ∀ σ na F0 H0 F H (Q : VK), Cur na F0 H0 F H → Env1 X.K ρ σ na H0 F H → ExcOk X.K W R na F0 H0 →
    (∀ d v ρ' F' H', Cur na F0 H0 F' H' → Env1 X.K ρ' σ na H0 F' H' → Is X.K d v F' → P d ρ' → Q v H') → t σ H Q) : WE X W R e ρ P :=
  ⟨fun pins s σ na F0 H0 F H Q I c n x q => h.run pins s σ H Q I (ht σ na F0 H0 F H Q c n x q)⟩
theorem WV.of {P : PV} {t : TE} (h : PE X e t) (ht : ∀ σ na F0 H0 F H (Q : VK), Cur na F0 H0 F H → Env1 X.K ρ σ na H0 F H → ExcOk X.K W R na F0 H0 →
    (∀ r v ρ' F' H', Cur na F0 H0 F' H' → Env1 X.K ρ' σ na H0 F' H' → RvE X.K ρ' σ r v F' H' H0 → P r ρ' → Q v H') → t σ H Q) : WV X W R e ρ P :=
  ⟨fun pins s σ na F0 H0 F H Q I c n x q => h.run pins s σ H Q I (ht σ na F0 H0 F H Q c n x q)⟩
theorem WA.of {t : TA} {P : List Dat → List Sl → Prop} (h : PA X es t) (ht : ∀ σ na F0 H0 F H (Q : List V → Hp → Prop), Cur na F0 H0 F H → Env1 X.K ρ σ na H0 F H → ExcOk X.K W R na F0 H0 →
    (∀ ds vs ρ' F' H', Cur na F0 H0 F' H' → Env1 X.K ρ' σ na H0 F' H' → Isl X.K ds vs F' → P ds ρ' → Q vs H') → t σ H Q) : WA X W R es ρ P :=
  ⟨fun pos pins s σ na F0 H0 F H Q I c n x q => h.run pos pins s σ H Q I (ht σ na F0 H0 F H Q c n x q)⟩
theorem WT.of {t : TT} {P : Bool → List Sl → Prop} (h : PT X e t) (ht : ∀ σ na F0 H0 F H (Q : Bool → Hp → Prop), Cur na F0 H0 F H → Env1 X.K ρ σ na H0 F H → ExcOk X.K W R na F0 H0 →
    (∀ b ρ' F' H', Cur na F0 H0 F' H' → Env1 X.K ρ' σ na H0 F' H' → P b ρ' → Q b H') → t σ H Q) : WT X W R e ρ P :=
  ⟨fun pins s σ na F0 H0 F H Q I c n x q => h.run pins s σ H Q I (ht σ na F0 H0 F H Q c n x q)⟩
theorem WW.of {t : TT} {P : Bool → List Sl → Prop} (h : PW X e t) (ht : ∀ σ na F0 H0 F H (Q : Bool → Hp → Prop), Cur na F0 H0 F H → Env1 X.K ρ σ na H0 F H → ExcOk X.K W R na F0 H0 →
    (∀ b ρ' F' H', Cur na F0 H0 F' H' → Env1 X.K ρ' σ na H0 F' H' → P b ρ' → Q b H') → t σ H Q) : WW X W R e ρ P :=
  ⟨fun wh pins s σ na F0 H0 F H Q I c n x q => h.run wh pins s σ H Q I (ht σ na F0 H0 F H Q c n x q)⟩
theorem WS.of {t : TS} (h : PS X st t) (ht : ∀ σ na F0 H0 F H (D : Ends), Cur na F0 H0 F H → Env1 X.K ρ σ na H0 F H → ExcOk X.K W R na F0 H0 → KnOk X.K na F0 H0 k D → t D σ H) : WS X W R st ρ k :=
  ⟨fun pins s σ na F0 H0 F H D I c n x q => h.run pins s σ H D I (ht σ na F0 H0 F H D c n x q)⟩
theorem WSs.of {t : TS} (h : PSs X sts t) (ht : ∀ σ na F0 H0 F H (D : Ends), Cur na F0 H0 F H → Env1 X.K ρ σ na H0 F H → ExcOk X.K W R na F0 H0 → KnOk X.K na F0 H0 k D → t D σ H) : WSs X W R sts ρ k :=
  ⟨fun pins s σ na F0 H0 F H D I c n x q => h.run pins s σ H D I (ht σ na F0 H0 F H D c n x q)⟩
theorem WE.wv {P : PV} (h : WE X W R e ρ fun d ρ' => P (.pu d) ρ') : WV X W R e ρ P :=
  ⟨fun pins s σ na F0 H0 F H Q I c n x q => h.run pins s σ na F0 H0 F H Q I c n x fun d v ρ' F' H' c' n' hd p => q (.pu d) v ρ' F' H' c' n' (.pu hd) p⟩
/-- a new list that changes no more -/
theorem frz_new {K : PySem.W.Frag} {ρ : List Sl} {σ : L2.St} {na : Option Addr} {F0 H0 F H : Hp} {a : Addr} {us : List V} {ds : List Dat} (c : Cur na F0 H0 F H) (n : Env1 K ρ σ na H0 F H) (h0 : H0 a = none) (hf : F a = none) (hh : H a = some (.lst us)) (hs : Isl K ds us F) (hn : NotAt ρ σ a) :
    Cur na F0 H0 (upd F a (.lst us)) H ∧ Env1 K ρ σ na H0 (upd F a (.lst us)) H ∧ Is K (.lst ds) (.ref a) (upd F a (.lst us)) := by
  have ff : Ex F (upd F a (.lst us)) := fun b o hb => by rw [upd_ne (ne_of_none hb hf)]; exact hb
  have nna : na ≠ some a := fun z => by
    obtain ⟨o, ho⟩ := c.nz a z
    rw [h0] at ho; cases ho
  refine ⟨⟨c.ff.trans ff, c.hh, fun b o hb => ?_, fun b o h1 h2 => ?_, fun b hb => ?_, c.nz⟩, ⟨fun i d h => let ⟨v, h1, h2⟩ := n.pu i d h; ⟨v, h1, h2.mono ff⟩, fun i l es h => ?_, fun i C ks es h => ?_, n.ap, n.ao, n.ln⟩, .lst upd_same (hs.mono ff)⟩
  · by_cases q : b = a
    · subst q; rw [upd_same] at hb; cases hb; exact hh
    · rw [upd_ne q] at hb; exact c.fh b o hb
  · rw [upd_ne (ne_of_none h1 h0)]; exact c.pr b o h1 h2
  · rw [upd_ne (fun q => nna (by rw [hb, q]))]; exact c.lv b hb
  · obtain ⟨b, vs, h1, h2, h3, h4, h5⟩ := n.ow i l es h
    exact ⟨b, vs, h1, by rw [upd_ne (fun q => hn i l es h (by rw [h1, q]))]; exact h2, h3, h4.mono ff, h5⟩
  · obtain ⟨b, dx, vs, h1, h2, h3, h4, h5, h6⟩ := n.ob i C ks es h
    exact ⟨b, dx, vs, h1, h2, by rw [upd_ne (fun q => nna (by rw [h2, q]))]; exact h3, h4, h5, h6.mono ff⟩
theorem WV.we (h : WV X W R e ρ fun r ρ' => P r.dat ρ') : WE X W R e ρ P :=
  ⟨fun pins s σ na F0 H0 F H Q I c n x q => h.run pins s σ na F0 H0 F H Q I c n x fun r v ρ' F' H' c' n' hr p => by
    cases hr with
    | pu hd => exact q _ v ρ' F' H' c' n' hd p
    | fr h0 hf hh hs hn =>
      obtain ⟨c2, n2, hd⟩ := frz_new c' n' h0 hf hh hs hn
      exact q _ _ ρ' _ H' c2 n2 hd p⟩
theorem WV.imp {P P' : PV} (h : WV X W R e ρ P) (i : ∀ r ρ', P r ρ' → P' r ρ') : WV X W R e ρ P' :=
  ⟨fun pins s σ na F0 H0 F H Q I c n x q => h.run pins s σ na F0 H0 F H Q I c n x fun d v ρ' F' H' c' n' hd p => q d v ρ' F' H' c' n' hd (i d ρ' p)⟩
theorem WA.imp {P P' : List Dat → List Sl → Prop} (h : WA X W R es ρ P) (i : ∀ ds ρ', P ds ρ' → P' ds ρ') : WA X W R es ρ P' :=
  ⟨fun pos pins s σ na F0 H0 F H Q I c n x q => h.run pos pins s σ na F0 H0 F H Q I c n x fun ds vs ρ' F' H' c' n' hd p => q ds vs ρ' F' H' c' n' hd (i ds ρ' p)⟩
theorem WT.imp {P P' : Bool → List Sl → Prop} (h : WT X W R e ρ P) (i : ∀ b ρ', P b ρ' → P' b ρ') : WT X W R e ρ P' :=
  ⟨fun pins s σ na F0 H0 F H Q I c n x q => h.run pins s σ na F0 H0 F H Q I c n x fun b ρ' F' H' c' n' p => q b ρ' F' H' c' n' (i b ρ' p)⟩
theorem WW.imp {P P' : Bool → List Sl → Prop} (h : WW X W R e ρ P) (i : ∀ b ρ', P b ρ' → P' b ρ') : WW X W R e ρ P' :=
  ⟨fun wh pins s σ na F0 H0 F H Q I c n x q => h.run wh pins s σ na F0 H0 F H Q I c n x fun b ρ' F' H' c' n' p => q b ρ' F' H' c' n' (i b ρ' p)⟩
theorem WW.wt {P : Bool → List Sl → Prop} (h : WW X W R e ρ P) : WT X W R e ρ P := ⟨h.run _⟩
theorem WE.imp {P' : PD} (h : WE X W R e ρ P) (i : ∀ d ρ', P d ρ' → P' d ρ') : WE X W R e ρ P' :=
  ⟨fun pins s σ na F0 H0 F H Q I c n x q => h.run pins s σ na F0 H0 F H Q I c n x fun d v ρ' F' H' c' n' hd p => q d v ρ' F' H' c' n' hd (i d ρ' p)⟩
end
end Sf
namespace Sf
open PySem L2

/-! ### names and constants -/
section
variable {X : Cx} {W : WX} {R : RX} {e a b c : Expr} {es : List Expr} {st : Stmt} {sts rest : List Stmt} {ρ : List Sl} {P : PD} {k : Kn} {pos pos' : Pos}
theorem we_var (i : Nat) {x : Str} {d : Dat} (h : ρ[i]? = some (.pu d)) (hp : P d ρ) (hN : X.N[i]? = some x := by rfl) (hv : Vis X.env.scope x := by first | exact Or.inl rfl | exact Or.inr (Or.inl rfl) | exact Or.inr (Or.inr rfl)) (hd : (x == ("__debug__" : Str)) = false := by decide)
    (hcd : (x == ("__classdict__" : Str)) = false := by decide) : WE X W R (.Name x pos) ρ P :=
  .of (pe_var hN hv hd hcd) fun σ na F0 H0 F H Q c n x q => let ⟨v, h1, h2⟩ := n.pu i d h; ⟨v, h1, q d v ρ F H c n h2 hp⟩
theorem we_int {i : Int} {j : Nat} (hp : P (dI i) ρ) : WE X W R (.Constant (.int i) j pos) ρ P := .of pe_int fun σ na F0 H0 F H Q c n x q => q _ _ ρ F H c n .v hp
theorem we_bl {b : Bool} {j : Nat} (hp : P (dB b) ρ) : WE X W R (.Constant (.bool b) j pos) ρ P := .of pe_bl fun σ na F0 H0 F H Q c n x q => q _ _ ρ F H c n .v hp
theorem we_non {j : Nat} (hp : P dN ρ) : WE X W R (.Constant .none j pos) ρ P := .of pe_non fun σ na F0 H0 F H Q c n x q => q _ _ ρ F H c n .v hp
theorem we_str {z : Str} {j : Nat} (hp : P (dS z) ρ) : WE X W R (.Constant (.str z) j pos) ρ P := .of pe_str fun σ na F0 H0 F H Q c n x q => q _ _ ρ F H c n .v hp
theorem we_glob {x : Str} {v : V} {u : Value} (hm : X.mg x = some u) (r : RelV v u) (hp : P (.v v) ρ) (hg : Gl X x := by rfl) (hd : (x == ("__debug__" : Str)) = false := by decide) : WE X W R (.Name x pos) ρ P :=
  .of (pe_glob hg hm r hd) fun σ na F0 H0 F H Q c n x q => q _ _ ρ F H c n .v hp
/-- a tuple of the module's own -/
theorem we_globT {x : Str} {p : Addr} {ds : List Dat} {vs : List V} (hm : X.mg x = some (.ref p)) (ht : ∀ H, SqT X.K H p vs) (hd : ∀ F, Isl X.K ds vs F) (hp : P (.tup ds) ρ) (hg : Gl X x := by rfl) (hdb : (x == ("__debug__" : Str)) = false := by decide) : WE X W R (.Name x pos) ρ P :=
  .of (pe_glob (v := .ref p) hg hm rfl hdb) fun σ na F0 H0 F H Q c n x q => q _ _ ρ F H c n (.tup (ht F) (hd F)) hp

/-! ### two-place operations -/
structure OpD (X : Cx) (W : WX) (R : RX) (f : Value → Value → Sem Value) (d1 d2 : Dat) (ρ : List Sl) (P : PD) : Prop where
  run : ∀ (pins : List (Addr × Obj)) (s : Shared) (σ : L2.St) (na : Option Addr) (F0 H0 F H : Hp) (x y : V) (v u : Value) (Q : VK), Inv X pins σ H s → Cur na F0 H0 F H → Env1 X.K ρ σ na H0 F H → ExcOk X.K W R na F0 H0 → Is X.K d1 x F → Is X.K d2 y F → RelV x v → RelV y u →
    (∀ d v ρ' F' H', Cur na F0 H0 F' H' → Env1 X.K ρ' σ na H0 F' H' → Is X.K d v F' → P d ρ' → Q v H') → wpAny (model X.prog X.w) X.A (f v u) (EP X pins σ Q) X.xe s
/-- a then b, then an operation -/
theorem two {f : Value → Value → Sem Value} (h : WE X W R a ρ fun d1 ρ1 => WE X W R b ρ1 fun d2 ρ2 => OpD X W R f d1 d2 ρ2 P) {pins : List (Addr × Obj)} {s : Shared} {σ : L2.St} {na : Option Addr} {F0 H0 F H : Hp} {Q : VK}
    (I : Inv X pins σ H s) (c : Cur na F0 H0 F H) (n : Env1 X.K ρ σ na H0 F H) (x : ExcOk X.K W R na F0 H0) (q : ∀ d v ρ' F' H', Cur na F0 H0 F' H' → Env1 X.K ρ' σ na H0 F' H' → Is X.K d v F' → P d ρ' → Q v H') :
    wpAny (model X.prog X.w) X.A (eval a X.env) (fun v s₁ => wpAny (model X.prog X.w) X.A (eval b X.env) (fun u s₂ => wpAny (model X.prog X.w) X.A (f v u) (EP X pins σ Q) X.xe s₂) X.xe s₁) X.xe s := by
  refine thn (h.run pins s σ na F0 H0 F H (fun x H1 => ∃ d1 ρ1 F1, Cur na F0 H0 F1 H1 ∧ Env1 X.K ρ1 σ na H0 F1 H1 ∧ Is X.K d1 x F1 ∧ WE X W R b ρ1 fun d2 ρ2 => OpD X W R f d1 d2 ρ2 P) I c n x fun d v ρ' F' H' c' n' hd p => ⟨d, ρ', F', c', n', hd, p⟩) fun v s1 ⟨x1, H1, I1, r1, d1, ρ1, F1, c1, n1, h1, p1⟩ => ?_
  refine thn (p1.run pins s1 σ na F1 H0 F1 H1 (fun y H2 => ∃ d2 ρ2 F2, Cur na F1 H0 F2 H2 ∧ Env1 X.K ρ2 σ na H0 F2 H2 ∧ Is X.K d2 y F2 ∧ OpD X W R f d1 d2 ρ2 P) I1 c1.re n1 (x.re c1) fun d v ρ' F' H' c' n' hd p => ⟨d, ρ', F', c', n', hd, p⟩) fun u s2 ⟨y, H2, I2, r2, d2, ρ2, F2, c2, n2, h2, p2⟩ => ?_
  exact p2.run pins s2 σ na F0 H0 F2 H2 x1 y v u Q I2 (c1.back c2) n2 x (h1.mono c2.ff) h2 r1 r2 q
theorem we_bin {op : Operator} (h : WE X W R a ρ fun d1 ρ1 => WE X W R b ρ1 fun d2 ρ2 => OpD X W R (binaryOp op) d1 d2 ρ2 P) : WE X W R (.BinOp a op b pos) ρ P :=
  ⟨fun pins s σ na F0 H0 F H Q I c n x q => wpAny_BinOp (two h I c n x q)⟩
theorem we_cmp {op : CmpOp} (h : WE X W R a ρ fun d1 ρ1 => WE X W R b ρ1 fun d2 ρ2 => OpD X W R (compareOp op) d1 d2 ρ2 P) (hm : behindInMarks op b = false := by first | exact nomark _ (by decide) (by decide) | rfl) : WE X W R (.Compare a [op] [b] pos) ρ P :=
  ⟨fun pins s σ na F0 H0 F H Q I c n x q => wpAny_Compare1 (two h I c n x q) hm⟩
theorem wt_cmp {op : CmpOp} {P : Bool → List Sl → Prop} (h : WE X W R a ρ fun d1 ρ1 => WE X W R b ρ1 fun d2 ρ2 => OpD X W R (compareOp op) d1 d2 ρ2 fun d ρ' => ∃ t, d = dB t ∧ P t ρ') (hm : behindInMarks op b = false := by first | exact nomark _ (by decide) (by decide) | rfl) : WT X W R (.Compare a [op] [b] pos) ρ P := by
  refine ⟨fun pins s σ na F0 H0 F H Q I c n x q => ?_⟩
  have q' : ∀ d v ρ' F' H', Cur na F0 H0 F' H' → Env1 X.K ρ' σ na H0 F' H' → Is X.K d v F' → (∃ t, d = dB t ∧ P t ρ') → ∃ t, v = .bl t ∧ Q t H' := fun d v ρ' F' H' c' n' hd ⟨t, e, p⟩ => by
    subst e
    exact ⟨t, is_v hd, q t ρ' F' H' c' n' p⟩
  refine wpAny_isTrue_Compare1 (wpAny_mono (two h I c n x (Q := fun v H' => ∃ t, v = .bl t ∧ Q t H') q') (fun v s1 z => wpAny_mono z (fun u s2 z => wpAny_mono z (fun w' s3 z => ?_) fun _ _ x => x) fun _ _ x => x) fun _ _ x => x) hm
  obtain ⟨v3, H3, I3, r3, t, e, qq⟩ := z
  subst e
  cases r3
  exact wpAny_truthy_bool ⟨H3, I3, qq⟩
/-- an operation of the layer's own on values -/
theorem OpD.of {f : Value → Value → Sem Value} {r : R2} {d1 d2 : Dat} (ho : OpR X f r) (h : ∀ x y F H (Q : VK), Ex F H → Is X.K d1 x F → Is X.K d2 y F → (∀ d v F' H', Stp F H F' H' → Is X.K d v F' → P d ρ → Q v H') → r x y H Q) : OpD X W R f d1 d2 ρ P :=
  ⟨fun pins s σ na F0 H0 F H x y v u Q I c n _ h1 h2 r1 r2 q => ho pins s σ H x y v u Q I r1 r2 (h x y F H Q c.fh h1 h2 fun d v F' H' st hd p => q d v ρ F' H' (c.stp st) (n.stp st) hd p)⟩
theorem od_I0 {f : Value → Value → Sem Value} {g : Int → Int → V} {i j : Int} (ho : OpR X f (rI0 g)) (p : P (.v (g i j)) ρ) : OpD X W R f (dI i) (dI j) ρ P :=
  .of ho fun x y F H Q e h1 h2 q => ⟨i, j, is_v h1, is_v h2, q _ _ F H (.refl e) .v p⟩
theorem od_I {f : Value → Value → Sem Value} {C : Int → Int → Prop} {g : Int → Int → V} {i j : Int} (ho : OpR X f (rI C g)) (hc : C i j) (p : P (.v (g i j)) ρ) : OpD X W R f (dI i) (dI j) ρ P :=
  .of ho fun x y F H Q e h1 h2 q => ⟨i, j, is_v h1, is_v h2, hc, q _ _ F H (.refl e) .v p⟩
theorem od_add {i j : Int} (p : P (dI (i + j)) ρ) : OpD X W R (binaryOp .Add) (dI i) (dI j) ρ P := od_I0 op_add p
theorem od_sub {i j : Int} (p : P (dI (i - j)) ρ) : OpD X W R (binaryOp .Sub) (dI i) (dI j) ρ P := od_I0 op_sub p
theorem od_mulB {i j : Int} (hc : CMul i j) (p : P (dI (i * j)) ρ) : OpD X W R (binaryOp .Mult) (dI i) (dI j) ρ P := od_I op_mul hc p
theorem od_mod {i j : Int} (hc : 0 < j) (p : P (dI (i % j)) ρ) : OpD X W R (binaryOp .Mod) (dI i) (dI j) ρ P := od_I op_mod hc p
theorem od_modN {i j : Int} (hc : j ≠ 0) (p : P (dI (i.fmod j)) ρ) : OpD X W R (binaryOp .Mod) (dI i) (dI j) ρ P := od_I op_modN hc p
theorem od_div {i j : Int} (hc : CDiv i j) (p : P (dI (i / j)) ρ) : OpD X W R (binaryOp .FloorDiv) (dI i) (dI j) ρ P := od_I op_fdiv hc p
theorem od_lt {i j : Int} (p : P (dB (decide (i < j))) ρ) : OpD X W R (compareOp .Lt) (dI i) (dI j) ρ P := od_I0 op_lt p
theorem od_le {i j : Int} (p : P (dB (decide (i ≤ j))) ρ) : OpD X W R (compareOp .LtE) (dI i) (dI j) ρ P := od_I0 op_le p
theorem od_gt {i j : Int} (p : P (dB (decide (j < i))) ρ) : OpD X W R (compareOp .Gt) (dI i) (dI j) ρ P := od_I0 op_gt p
theorem od_ge {i j : Int} (p : P (dB (decide (j ≤ i))) ρ) : OpD X W R (compareOp .GtE) (dI i) (dI j) ρ P := od_I0 op_ge p
theorem od_eq {x y : V} (hs : scal x y = true) (p : P (dB (decide (x = y))) ρ) : OpD X W R (compareOp .Eq) (.v x) (.v y) ρ P :=
  .of op_eq fun x' y' F H Q e h1 h2 q => by cases is_v h1; cases is_v h2; exact ⟨hs, q _ _ F H (.refl e) .v p⟩
theorem od_ne {x y : V} (hs : scal x y = true) (p : P (dB (!decide (x = y))) ρ) : OpD X W R (compareOp .NotEq) (.v x) (.v y) ρ P :=
  .of op_ne fun x' y' F H Q e h1 h2 q => by cases is_v h1; cases is_v h2; exact ⟨hs, q _ _ F H (.refl e) .v p⟩
theorem int_eq {i j : Int} : decide (V.int i = V.int j) = decide (i = j) := by
  by_cases h : i = j
  · subst h; simp
  · rw [decide_eq_false h, decide_eq_false (fun z => h (V.int.inj z))]
theorem od_eqI {i j : Int} (p : P (dB (decide (i = j))) ρ) : OpD X W R (compareOp .Eq) (dI i) (dI j) ρ P := od_eq rfl (by rw [int_eq]; exact p)
theorem od_neI {i j : Int} (p : P (dB (!decide (i = j))) ρ) : OpD X W R (compareOp .NotEq) (dI i) (dI j) ρ P := od_ne rfl (by rw [int_eq]; exact p)
theorem od_isN {x : Dat} {bb : Bool} (hb : ∀ v F, Is X.K x v F → decide (v = .non) = bb) (p : P (dB bb) ρ) : OpD X W R (compareOp .Is) x dN ρ P :=
  .of op_isN fun x' y' F H Q e h1 h2 q => ⟨is_v h2, by rw [hb x' F h1]; exact q _ _ F H (.refl e) .v p⟩
theorem od_notN {x : Dat} {bb : Bool} (hb : ∀ v F, Is X.K x v F → decide (v = .non) = bb) (p : P (dB (!bb)) ρ) : OpD X W R (compareOp .IsNot) x dN ρ P :=
  .of op_notN fun x' y' F H Q e h1 h2 q => ⟨is_v h2, by rw [hb x' F h1]; exact q _ _ F H (.refl e) .v p⟩

/-! ### one-place -/
theorem we_neg (h : WE X W R a ρ fun d ρ' => ∃ i, d = dI i ∧ P (dI (-i)) ρ') : WE X W R (.UnaryOp .USub a pos) ρ P :=
  .of (pe_un un_neg (pe_U (W := W))) fun σ na F0 H0 F H Q c n x q => ⟨ρ, _, R, na, F0, H0, F, h, c, n, x, fun d v ρ' F' H' c' n' hd ⟨i, e, p⟩ => by
    subst e; exact ⟨i, is_v hd, q _ _ ρ' F' H' c' n' .v p⟩⟩
theorem we_not (h : WE X W R a ρ fun d ρ' => ∃ t, d = dB t ∧ P (dB (!t)) ρ') : WE X W R (.UnaryOp .Not a pos) ρ P :=
  .of (pe_not (pe_U (W := W))) fun σ na F0 H0 F H Q c n x q => ⟨ρ, _, R, na, F0, H0, F, h, c, n, x, fun d v ρ' F' H' c' n' hd ⟨t, e, p⟩ => by
    subst e; exact ⟨t, is_v hd, q _ _ ρ' F' H' c' n' .v p⟩⟩

/-! ### tests -/
variable {PT : Bool → List Sl → Prop}
theorem wt_val (h : WE X W R e ρ fun d ρ' => ∃ t, d = dB t ∧ PT t ρ') (he : ∀ whole, isTrue e X.env whole = (do let v ← whole; standAt e.pos; holding [v] (truthy v)) := by intro _; rfl) : WT X W R e ρ PT :=
  .of (pt_val (pe_U (W := W)) he) fun σ na F0 H0 F H Q c n x q => ⟨ρ, _, R, na, F0, H0, F, h, c, n, x, fun d v ρ' F' H' c' n' hd ⟨t, e, p⟩ => by
    subst e; exact ⟨t, is_v hd, q t ρ' F' H' c' n' p⟩⟩
theorem wt_not (h : WT X W R a ρ fun t ρ' => PT (!t) ρ') : WT X W R (.UnaryOp .Not a pos) ρ PT :=
  .of (pt_not (pt_U (W := W))) fun σ na F0 H0 F H Q c n x q => ⟨ρ, _, R, na, F0, H0, F, h, c, n, x, fun t ρ' F' H' c' n' p => q _ ρ' F' H' c' n' p⟩
theorem ww_and1 (h : WT X W R a ρ PT) : WW X W R (.BoolOp .And [a] pos) ρ PT := .of (pw_and1 (pt_U (W := W))) fun σ na F0 H0 F H Q c n x q => ⟨ρ, _, R, na, F0, H0, F, h, c, n, x, q⟩
theorem ww_or1 (h : WT X W R a ρ PT) : WW X W R (.BoolOp .Or [a] pos) ρ PT := .of (pw_or1 (pt_U (W := W))) fun σ na F0 H0 F H Q c n x q => ⟨ρ, _, R, na, F0, H0, F, h, c, n, x, q⟩
theorem ww_and {es : List Expr} (h : WT X W R a ρ fun t ρ' => (t = true → WW X W R (.BoolOp .And (b :: es) pos) ρ' PT) ∧ (t = false → PT false ρ')) : WW X W R (.BoolOp .And (a :: b :: es) pos) ρ PT :=
  .of (pw_and (pt_U (W := W)) (pw_U (W := W))) fun σ na F0 H0 F H Q c n x q => ⟨ρ, _, R, na, F0, H0, F, h, c, n, x, fun t ρ' F' H' c' n' p => by
    cases t with
    | true => exact iteT ⟨ρ', _, R, na, F0, H0, F', p.1 rfl, c', n', x, q⟩
    | false => exact iteF (q _ ρ' F' H' c' n' (p.2 rfl))⟩
theorem ww_or {es : List Expr} (h : WT X W R a ρ fun t ρ' => (t = false → WW X W R (.BoolOp .Or (b :: es) pos) ρ' PT) ∧ (t = true → PT true ρ')) : WW X W R (.BoolOp .Or (a :: b :: es) pos) ρ PT :=
  .of (pw_or (pt_U (W := W)) (pw_U (W := W))) fun σ na F0 H0 F H Q c n x q => ⟨ρ, _, R, na, F0, H0, F, h, c, n, x, fun t ρ' F' H' c' n' p => by
    cases t with
    | true => exact iteT (q _ ρ' F' H' c' n' (p.2 rfl))
    | false => exact iteF ⟨ρ', _, R, na, F0, H0, F', p.1 rfl, c', n', x, q⟩⟩
/-- and, or as values, all but the last True or False -/
theorem we_and {es : List Expr} (h : WE X W R a ρ fun d ρ' => ∃ t, d = dB t ∧ (t = true → WE X W R (.BoolOp .And (b :: es) pos) ρ' P) ∧ (t = false → P (dB false) ρ')) : WE X W R (.BoolOp .And (a :: b :: es) pos) ρ P :=
  .of (pe_and (pe_U (W := W)) (pe_U (W := W))) fun σ na F0 H0 F H Q c n x q => ⟨ρ, _, R, na, F0, H0, F, h, c, n, x, fun d v ρ' F' H' c' n' hd ⟨t, e, p⟩ => by
    subst e
    cases t with
    | true => exact ⟨true, is_v hd, iteT ⟨ρ', _, R, na, F0, H0, F', p.1 rfl, c', n', x, q⟩⟩
    | false => exact ⟨false, is_v hd, iteF (q _ _ ρ' F' H' c' n' .v (p.2 rfl))⟩⟩
theorem we_or {es : List Expr} (h : WE X W R a ρ fun d ρ' => ∃ t, d = dB t ∧ (t = false → WE X W R (.BoolOp .Or (b :: es) pos) ρ' P) ∧ (t = true → P (dB true) ρ')) : WE X W R (.BoolOp .Or (a :: b :: es) pos) ρ P :=
  .of (pe_or (pe_U (W := W)) (pe_U (W := W))) fun σ na F0 H0 F H Q c n x q => ⟨ρ, _, R, na, F0, H0, F, h, c, n, x, fun d v ρ' F' H' c' n' hd ⟨t, e, p⟩ => by
    subst e
    cases t with
    | true => exact ⟨true, is_v hd, iteT (q _ _ ρ' F' H' c' n' .v (p.2 rfl))⟩
    | false => exact ⟨false, is_v hd, iteF ⟨ρ', _, R, na, F0, H0, F', p.1 rfl, c', n', x, q⟩⟩⟩
theorem we_last {op : BoolOp} (h : WE X W R a ρ P) : WE X W R (.BoolOp op [a] pos) ρ P :=
  .of (pe_one (pe_U (W := W))) fun σ na F0 H0 F H Q c n x q => ⟨ρ, _, R, na, F0, H0, F, h, c, n, x, q⟩
theorem we_ifx {t : Expr} (h : WT X W R t ρ fun r ρ' => (r = true → WE X W R a ρ' P) ∧ (r = false → WE X W R b ρ' P)) : WE X W R (.IfExp t a b pos) ρ P :=
  .of (pe_ifExp (pt_U (W := W)) (pe_U (W := W)) (pe_U (W := W))) fun σ na F0 H0 F H Q c n x q => ⟨ρ, _, R, na, F0, H0, F, h, c, n, x, fun r ρ' F' H' c' n' p => by
    cases r with
    | true => exact iteT ⟨ρ', _, R, na, F0, H0, F', p.1 rfl, c', n', x, q⟩
    | false => exact iteF ⟨ρ', _, R, na, F0, H0, F', p.2 rfl, c', n', x, q⟩⟩

/-! ### fields -/
def look (ks : List Str) (ds : List Dat) (f : Str) : Option Dat := (ks.zip ds).lookup f
theorem look_v {K : PySem.W.Frag} {F : Hp} {f : Str} : ∀ {ks : List Str} {ds : List Dat} {vs : List V} {d : Dat}, Isl K ds vs F → look ks ds f = some d → ∃ v, (ks.zip vs).lookup f = some v ∧ Is K d v F
  | [], _, _, _, _, h => by simp [look] at h
  | _ :: _, _, _, _, .nil, h => by simp [look] at h
  | g :: ks, _, _, d, .cons (d := d') (x := x') a b, h => by
    unfold look at h
    rw [List.zip_cons_cons, List.lookup_cons] at h ⊢
    cases e : (f == g) with
    | true => rw [e] at h; cases h; exact ⟨x', rfl, a⟩
    | false => rw [e] at h; exact look_v b h
theorem we_fld {f : Str} (h : WE X W R e ρ fun d ρ' => ∃ C ks ds d', d = .ins C ks ds ∧ Cls X.K (He.ga X.K C) ∧ NoAttr X.K (He.ga X.K C) f ∧ look ks ds f = some d' ∧ P d' ρ') (hb : attributeBase e f X.env (eval e X.env) = eval e X.env := by rfl) : WE X W R (.Attribute e f pos) ρ P :=
  .of (pe_fld (pe_U (W := W)) hb) fun σ na F0 H0 F H Q c n x q => ⟨ρ, _, R, na, F0, H0, F, h, c, n, x, fun d v ρ' F' H' c' n' hd ⟨C, ks, ds, d', e, hc, hn, hl, p⟩ => by
    subst e
    cases hd with
    | ins ha hz hs =>
      obtain ⟨v', h1, h2⟩ := look_v hs hl
      exact ⟨_, _, _, _, v', rfl, c'.fh _ _ ha, hc, hn, h1, q _ _ ρ' F' H' c' n' h2 p⟩⟩

/-! ### arguments, displays -/
theorem wa_nil {P : List Dat → List Sl → Prop} (p : P [] ρ) : WA X W R [] ρ P := .of pa_nil fun σ na F0 H0 F H Q c n x q => q [] [] ρ F H c n .nil p
theorem wa_cons {P : List Dat → List Sl → Prop} (h : WE X W R e ρ fun d ρ' => WA X W R es ρ' fun ds ρ'' => P (d :: ds) ρ'') (hs : starEach (e :: es) X.env = (false, eval e X.env) :: starEach es X.env := by rfl) : WA X W R (e :: es) ρ P :=
  .of (pa_cons (pe_U (W := W)) (pa_U (W := W)) hs) fun σ na F0 H0 F H Q c n x q => ⟨ρ, _, R, na, F0, H0, F, h, c, n, x, fun d v ρ' F' H' c' n' hd p =>
    ⟨ρ', _, R, na, F', H0, F', p, c'.re, n', x.re c', fun ds vs ρ'' F'' H'' c'' n'' hds p' => q (d :: ds) (v :: vs) ρ'' F'' H'' (c'.back c'') n'' (.cons (hd.mono c''.ff) hds) p'⟩⟩
theorem we_tup {x1} (h : WA X W R es ρ fun ds ρ' => ds.length ≤ 100000 ∧ P (.tup ds) ρ') : WE X W R (.Tuple es x1 pos) ρ P :=
  .of (pe_tup (pa_U (W := W))) fun σ na F0 H0 F H Q c n x q => ⟨ρ, _, R, na, F0, H0, F, h, c, n, x, fun ds vs ρ' F' H' c' n' hd ⟨hl, p⟩ =>
    ⟨by rw [← hd.length]; exact Nat.le_trans hl (by decide), fun a ha => by
      have st := Stp.new (o := .tup vs) c'.fh ha
      exact q (.tup ds) (.ref a) ρ' _ _ (c'.stp st) (n'.stp st) (.tup (.inl (.inl upd_same)) (hd.mono st.ff)) p⟩⟩
theorem we_lst (h : WA X W R es ρ fun ds ρ' => ds.length ≤ 100000 ∧ P (.lst ds) ρ') : WE X W R (.List es pos) ρ P :=
  .of (pe_lst (pa_U (W := W))) fun σ na F0 H0 F H Q c n x q => ⟨ρ, _, R, na, F0, H0, F, h, c, n, x, fun ds vs ρ' F' H' c' n' hd ⟨hl, p⟩ =>
    ⟨by rw [← hd.length]; exact Nat.le_trans hl (by decide), fun a ha => by
      have st := Stp.new (o := .lst vs) c'.fh ha
      exact q (.lst ds) (.ref a) ρ' _ _ (c'.stp st) (n'.stp st) (.lst upd_same (hd.mono st.ff)) p⟩⟩
theorem wv_lst {P : PV} (h : WA X W R es ρ fun ds ρ' => ds.length ≤ 100000 ∧ P (.fr ds) ρ') : WV X W R (.List es pos) ρ P :=
  .of (pe_lst (pa_U (W := W))) fun σ na F0 H0 F H Q c n x q => ⟨ρ, _, R, na, F0, H0, F, h, c, n, x, fun ds vs ρ' F' H' c' n' hd ⟨hl, p⟩ =>
    ⟨by rw [← hd.length]; exact Nat.le_trans hl (by decide), fun a ha => by
      have st := Stp.junk (o := .lst vs) c'.fh ha
      refine q (.fr ds) (.ref a) ρ' _ _ (c'.stp st) (n'.stp st) (.fr ?_ (fnone c'.fh ha) upd_same hd fun i l es hi z => ?_) p
      · cases q0 : H0 a with
        | none => rfl
        | some u =>
          by_cases z : na = some a
          · obtain ⟨⟨o, ho⟩, _⟩ := c'.lv a z
            rw [ha] at ho; cases ho
          · rw [c'.hh a u z q0] at ha; cases ha
      · obtain ⟨b, ws, y1, y2, y3, _⟩ := n'.ow i l es hi
        rw [z] at y1; cases y1
        rw [ha] at y3; cases y3⟩⟩
/-- a builtin's call -/
theorem we_cb {id : String} {x : Str} {p : Pos} {r : List V → Hp → VK → Prop} (hc : CallR X (.builtin id) r) (hm : X.mg x = none) (hv : bootBuiltins x = some (.builtin id))
    (h : WA X W R (e :: es) ρ fun ds ρ' => ∀ vs F H (Q : VK), Ex F H → Isl X.K ds vs F → (∀ d v F' H', Stp F H F' H' → Is X.K d v F' → P d ρ' → Q v H') → r vs H Q) (hg : Gl X x := by rfl) (hn : x ≠ "__name__" := by decide) (hdb : (x == ("__debug__" : Str)) = false := by decide)
    (he : starEach (e :: es) X.env = (false, eval e X.env) :: starEach es X.env := by rfl) (hpl : (backTo pos (starEach es X.env)).any (·.1) = false := by rfl) : WE X W R (.Call (.Name x p) (e :: es) [] pos) ρ P :=
  .of (pe_callB hc hg hm hv (pa_U (W := W)) hn hdb he hpl) fun σ na F0 H0 F H Q c n x q => ⟨ρ, _, R, na, F0, H0, F, h, c, n, x, fun ds vs ρ' F' H' c' n' hd p =>
    p vs F' H' Q c'.fh hd fun d v F'' H'' st hd' p' => q d v ρ' F'' H'' (c'.stp st) (n'.stp st) hd' p'⟩
theorem we_ct {T : String} {x : Str} {p : Pos} {r : List V → Hp → VK → Prop} (hc : CallR X (.type T) r) (hm : X.mg x = none) (hv : bootBuiltins x = some (.type T))
    (h : WA X W R (e :: es) ρ fun ds ρ' => ∀ vs F H (Q : VK), Ex F H → Isl X.K ds vs F → (∀ d v F' H', Stp F H F' H' → Is X.K d v F' → P d ρ' → Q v H') → r vs H Q) (hg : Gl X x := by rfl) (hn : x ≠ "__name__" := by decide) (hdb : (x == ("__debug__" : Str)) = false := by decide)
    (he : starEach (e :: es) X.env = (false, eval e X.env) :: starEach es X.env := by rfl) (hpl : (backTo pos (starEach es X.env)).any (·.1) = false := by rfl) : WE X W R (.Call (.Name x p) (e :: es) [] pos) ρ P :=
  .of (pe_callTy hc hg hm hv (pa_U (W := W)) hn hdb he hpl) fun σ na F0 H0 F H Q c n x q => ⟨ρ, _, R, na, F0, H0, F, h, c, n, x, fun ds vs ρ' F' H' c' n' hd p =>
    p vs F' H' Q c'.fh hd fun d v F'' H'' st hd' p' => q d v ρ' F'' H'' (c'.stp st) (n'.stp st) hd' p'⟩
/-- .. by a name that the module imports -/
theorem we_cbf {id : String} {x : Str} {p : Pos} {r : List V → Hp → VK → Prop} (hc : CallR X (.builtin id) r) (hm : X.mg x = some (.builtin id))
    (h : WA X W R (e :: es) ρ fun ds ρ' => ∀ vs F H (Q : VK), Ex F H → Isl X.K ds vs F → (∀ d v F' H', Stp F H F' H' → Is X.K d v F' → P d ρ' → Q v H') → r vs H Q) (hg : Gl X x := by rfl) (hdb : (x == ("__debug__" : Str)) = false := by decide)
    (he : starEach (e :: es) X.env = (false, eval e X.env) :: starEach es X.env := by rfl) (hpl : (backTo pos (starEach es X.env)).any (·.1) = false := by rfl) : WE X W R (.Call (.Name x p) (e :: es) [] pos) ρ P :=
  .of (pe_callBfun hc hg hm (pa_U (W := W)) hdb he hpl) fun σ na F0 H0 F H Q c n x q => ⟨ρ, _, R, na, F0, H0, F, h, c, n, x, fun ds vs ρ' F' H' c' n' hd p =>
    p vs F' H' Q c'.fh hd fun d v F'' H'' st hd' p' => q d v ρ' F'' H'' (c'.stp st) (n'.stp st) hd' p'⟩

/-! ### statements -/
theorem wss_nil (p : k.nx ρ) : WSs X W R [] ρ k := .of pss_nil fun σ na F0 H0 F H D c n x q => q.nx ρ σ F H c n p
theorem wss_cons (h : WS X W R st ρ { k with nx := fun ρ' => WSs X W R rest ρ' k }) : WSs X W R (st :: rest) ρ k :=
  .of (pss_cons (ps_U (W := W)) (pss_U (W := W))) fun σ na F0 H0 F H D c n x q => ⟨ρ, _, R, na, F0, H0, F, h, c, n, x, ⟨fun ρ' σ' F' H' c' n' p => ⟨ρ', _, R, na, F0, H0, F', p, c', n', x, q⟩, q.rt, q.bk, q.ct⟩⟩
theorem wss_one (h : WS X W R st ρ k) : WSs X W R [st] ρ k :=
  .of (pss_one (ps_U (W := W))) fun σ na F0 H0 F H D c n x q => ⟨ρ, _, R, na, F0, H0, F, h, c, n, x, q⟩
theorem ws_expr (h : WE X W R e ρ fun _ ρ' => k.nx ρ') (hs : swapsWith e none pos.line X.env = pure false := by rfl) : WS X W R (.Expr e pos) ρ k :=
  .of (ps_expr (pe_U (W := W)) hs) fun σ na F0 H0 F H D c n x q => ⟨ρ, _, R, na, F0, H0, F, h, c, n, x, fun d v ρ' F' H' c' n' hd p => q.nx ρ' σ F' H' c' n' p⟩
theorem ws_ret (h : WV X W R e ρ k.rt) : WS X W R (.Return (some e) pos) ρ k :=
  .of (ps_ret (pe_V (W := W))) fun σ na F0 H0 F H D c n x q => ⟨ρ, _, R, na, F0, H0, F, h, c, n, x, fun d v ρ' F' H' c' n' hd p => q.rt d v ρ' σ F' H' c' n' hd.a p⟩
/-- return of an own list -/
theorem ws_retO (i : Nat) {x1 : Str} {p1 : Pos} {ds : List Dat} (hi : ρ[i]? = some (.ow false ds)) (hp : k.rt (.fr ds) ρ) (hN : X.N[i]? = some x1 := by rfl) (hv : Vis X.env.scope x1 := by first | exact Or.inl rfl | exact Or.inr (Or.inl rfl) | exact Or.inr (Or.inr rfl))
    (hd : (x1 == ("__debug__" : Str)) = false := by decide) (hcd : (x1 == ("__classdict__" : Str)) = false := by decide) : WS X W R (.Return (some (.Name x1 p1)) pos) ρ k :=
  .of (ps_ret (pe_var hN hv hd hcd)) fun σ na F0 H0 F H D c n x q => by
    obtain ⟨a0, vs, g1, g2, g3, g4, g5, g6⟩ := n.ow i false ds hi
    exact ⟨.ref a0, g1, q.rt _ _ ρ σ F H c n (.fr (g6 rfl) g2 g3 g4) hp⟩
theorem ws_pass (p : k.nx ρ) : WS X W R (.Pass pos) ρ k := .of ps_pass fun σ na F0 H0 F H D c n x q => q.nx ρ σ F H c n p
theorem ws_brk (p : k.bk ρ) : WS X W R (.Break pos) ρ k := .of ps_break fun σ na F0 H0 F H D c n x q => q.bk ρ σ F H c n p
theorem ws_cont (p : k.ct ρ) : WS X W R (.Continue pos) ρ k := .of ps_continue fun σ na F0 H0 F H D c n x q => q.ct ρ σ F H c n p
theorem ws_if {c : Expr} {A B : List Stmt} (h : WT X W R c ρ fun t ρ' => (t = true → WSs X W R A ρ' k) ∧ (t = false → WSs X W R B ρ' k)) : WS X W R (.If c A B pos) ρ k :=
  .of (ps_if (pt_U (W := W)) (pss_U (W := W)) (pss_U (W := W))) fun σ na F0 H0 F H D c n x q => ⟨ρ, _, R, na, F0, H0, F, h, c, n, x, fun t ρ' F' H' c' n' p => by
    cases t with
    | true => exact iteT ⟨ρ', _, R, na, F0, H0, F', p.1 rfl, c', n', x, q⟩
    | false => exact iteF ⟨ρ', _, R, na, F0, H0, F', p.2 rfl, c', n', x, q⟩⟩
theorem ws_set (i : Nat) {x : Str} (hN : X.N.Nodup) (h : WE X W R e ρ fun d ρ' => k.nx (ρ'.set i (.pu d))) (hi : X.N[i]? = some x := by rfl) (hx : Loc X.env.scope x := by first | exact Or.inl rfl | exact Or.inr rfl)
    (hs : swapsWith e (some (.Name x pos')) pos.line X.env = pure false := by rfl) (hf : X.fn x = true ∨ X.env.scope.names.lookup x = some .local := by first | exact .inl rfl | exact .inr rfl | assumption) : WS X W R (.Assign [.Name x pos'] e pos) ρ k :=
  .of (ps_set hN hi hx (pe_U (W := W)) hs hf) fun σ na F0 H0 F H D c n x q => ⟨ρ, _, R, na, F0, H0, F, h, c, n, x, fun d v ρ' F' H' c' n' hd p => q.nx _ _ F' H' c' (n'.set hd) p⟩
end
end Sf
namespace PySem.W
open PySem PySem.Calls PyProof.Rows
section
variable {prog : Program} {w : World} {A : Around} {E : Value → Shared → Prop} {s : Shared} {K : Frag} {x C D L f : Addr} {h₀ : Heap} {m : Str → Option Value} {ox : Obj} {od : Option Obj}
/-- an own class's operator, the right side of another own class with the same operator -/
theorem sf_bin2 {op : Operator} {b : Value} {g : Addr} {rc rd : Option Value} {Q : Value → Shared → Prop} (F : Fr h₀ L s.heap m) (X₀ : K.In h₀) (I : InstAt s.heap x ox C od) (hb : Looks (model prog w) s.heap (typeOf b) (.ref D)) (hne : C ≠ D) (hc : selfFirst K C = true) (hd : selfFirst K D = true)
    (hs : findIn K (.ref C) (PySem.dunder op.info.2) = some (some (.ref f))) (hf : isFn K (.ref f) = true) (hr : findIn K (.ref C) (dunderR op.info.2) = some rc) (hp : rc = none ∨ ∃ g : Addr, rc = some (.ref g))
    (hs2 : findIn K (.ref D) (PySem.dunder op.info.2) = some (some (.ref g))) (hr2 : findIn K (.ref D) (dunderR op.info.2) = some rd) (hp2 : rd = none ∨ ∃ g : Addr, rd = some (.ref g)) (hsub : subIn K (.ref D) (.ref C) = some false)
    (h : wpAny (model prog w) A (call (.ref f) [.ref x, b]) (CmpBack Q) E s) : wpAny (model prog w) A (binaryOp op (.ref x) b) Q E s := by
  have X := X₀.keeps F.keep
  obtain ⟨cd, rest, hcd, hm⟩ := ksp_first hc
  obtain ⟨cd2, rest2, hcd2, hm2⟩ := ksp_first hd
  rcases hi : op.info with ⟨sym, nm'⟩
  rw [hi] at hs hr hs2 hr2
  dsimp only at hs hr hs2 hr2
  have one := ksp_try X I hs hf h
  obtain ⟨hh, g', d, tt, os⟩ := s
  have L1 : Looks (model prog w) hh (typeOf (.ref x)) (.ref C) := I.type
  have L2 : Looks (model prog w) hh (typeOf b) (.ref D) := hb
  have L3 : Looks (model prog w) hh (fillsNumberSlot (.ref C) nm') true := fills_K X hcd hm hs
  have L4 : Looks (model prog w) hh (fillsNumberSlot (.ref D) nm') true := fills_K X hcd2 hm2 hs2
  have L5 : Looks (model prog w) hh (isSubtype (.ref D) (.ref C)) false := looks_subIn X hsub
  have L6 : Looks (model prog w) hh (numberSlotInPython (.ref C) nm') true := ksp_inPy X hs hr hp
  have L7 : Looks (model prog w) hh (numberSlotInPython (.ref D) nm') true := ksp_inPy X hs2 hr2 hp2
  have hneq : (Value.ref C == Value.ref D) = false := Bool.eq_false_iff.mpr fun q => by
    have := beq_iff_eq.mp q
    injection this with z
    exact hne z
  simp only [binaryOp, hi]
  refine wpAny_holding (wpAny_bind ?_)
  unfold binaryOp1
  refine wpAny_bind (L1.at (wpAny_bind (L2.at (wpAny_bind (L3.at ?_)))))
  simp only [hneq, Bool.false_eq_true, if_false]
  ksp_lk
  refine wpAny_mono one (fun r s' hr' => ?_) fun _ _ e => e
  obtain ⟨v, rfl, hq⟩ := hr'
  ksp_lk
  exact hq
/-- != of an own class that has == -/
theorem sf_ne {b tb : Value} {Q : Value → Shared → Prop} (hu : A.units + 1 < cLine) (F : Fr h₀ L s.heap m) (X₀ : K.In h₀) (I : InstAt s.heap x ox C od) (hb : Looks (model prog w) s.heap (typeOf b) tb) (hn : notFirst K C tb = true)
    (hne : findIn K (.ref C) "__ne__" = some (some (.builtin "object.__ne__"))) (he : findIn K (.ref C) "__eq__" = some (some (.ref f))) (hf : isFn K (.ref f) = true) (ho : subIn K (.ref C) (.type "object") = some true)
    (h : wpAny (model prog w) A.in1 (call (.ref f) [.ref x, b]) (fun v s' => ∃ r, v = .bool r ∧ Q (.bool (!r)) s') E s) : wpAny (model prog w) A (richCompare .NotEq (.ref x) b) Q E s := by
  have X := X₀.keeps F.keep
  have one : wpAny (model prog w) A (tryCompare (.ref x) "__ne__" b) (fun r s' => ∃ v, r = some v ∧ Q v s') E s := by
    unfold tryCompare
    have bind : bindSpecial (.builtin "object.__ne__") (.ref x) = pure (.builtin "object.__ne__", [.ref x]) := PySem.F.cmp_object.ne.bind (.ref x)
    have body : wpAny (model prog w) A (call (.builtin "object.__ne__") [.ref x, b]) (fun v s' => v ≠ .notImplemented ∧ Q v s') E s := by
      refine wpAny_call (codeAny_call_builtin PySem.F.cmp_object.ne.plain PySem.F.cmpEntry_ne (@check_slot (model prog w) _ _ s "object.__ne__" "object" "__ne__" (.ref x) [b] [] _ PySem.F.cmpKind_ne PySem.F.cmpSplit_ne (I.type.andThen (looks_subIn X ho)) (PySem.F.cmpArgs_ne _ _) ?_))
      unfold Builtin.«object.__ne__»
      have e0 : slotArgs "__ne__" 1 ⟨[.ref x, b], []⟩ = pure ((.ref x : Value), [b]) := by kernel_rfl
      rw [e0]
      refine wpAny_bind (wpAny_pure ?_)
      dsimp only
      refine wpAny_bind (wpAny_cRoomFor (Nat.lt_of_le_of_lt (Nat.le_refl _) hu) ?_)
      refine wpAny_bind (ifBound_K X I he hf (wpAny_mono h (fun v s' hv => ?_) fun _ _ e => e))
      obtain ⟨r, rfl, q⟩ := hv
      dsimp only
      refine wpAny_bind (wpAny_truthy_bool (wpAny_pure ?_))
      exact ⟨(fun z => nomatch z), q⟩
    have fin : wpAny (model prog w) A (call (.builtin "object.__ne__") ([.ref x] ++ [b]) >>= fun v => pure (some v)) (fun r s' => wpAny (model prog w) A (match r with | some .notImplemented => pure none | none => pure none | some v => pure (some v)) (fun r s' => ∃ v, r = some v ∧ Q v s') E s') E s :=
      wpAny_bind (wpAny_mono body (fun v s' hv => wpAny_pure (by
        obtain ⟨hv1, hv2⟩ := hv
        cases v <;> first | exact absurd rfl hv1 | exact wpAny_pure ⟨_, rfl, hv2⟩)) fun _ _ h' => h')
    simp only [callSpecialIfBound?, bindSpecialIfBound?]
    refine wpAny_bind (wpAny_holding (wpAny_bind (wpAny_bind (wpAny_bind (I.type.here ((looks_findIn X hne).here ?_))))))
    refine wpAny_bind (wpAny_askSetting (wpAny_ite ?_))
    rw [bind]
    split
    · exact wpAny_bind (wpAny_pure (wpAny_pure (by exact fin)))
    · exact wpAny_tryCatch (wpAny_bind (wpAny_pure (wpAny_pure (by exact fin))))
  unfold richCompare
  simp only [oneThing_ref]
  refine wpAny_holding (wpAny_bind (wpAny_cRoomFor (Nat.lt_of_succ_lt hu) ?_))
  refine wpAny_bind (I.type.here (wpAny_bind (hb.here ?_)))
  split
  · rename_i q
    have e : subIn K tb (.ref C) = some false := by
      rcases Bool.or_eq_true_iff.mp hn with e | e
      · rw [beq_iff_eq.mp e] at q; simp at q
      · exact beq_iff_eq.mp e
    refine wpAny_bind ((looks_subIn X e).here ?_)
    simp only [Bool.false_eq_true, if_false]
    refine wpAny_bind (wpAny_mono one (fun r s' z => ?_) fun _ _ e => e)
    obtain ⟨v, rfl, hq⟩ := z
    exact wpAny_pure hq
  · refine wpAny_bind (wpAny_pure ?_)
    simp only [Bool.false_eq_true, if_false]
    refine wpAny_bind (wpAny_mono one (fun r s' z => ?_) fun _ _ e => e)
    obtain ⟨v, rfl, hq⟩ := z
    exact wpAny_pure hq
end
end PySem.W
namespace Sf
open PySem L2

/-! ### promises of defs, without the heap -/
abbrev DSp := List Dat → (Rv → Prop) → (Exn → Prop) → Prop
/-- a def that only makes objects -/
def lift (K : PySem.W.Frag) (s : DSp) : Sp := fun vs H Q E => ∃ F ds P R, Ex F H ∧ Isl K ds vs F ∧ s ds P R ∧
  (∀ r v F' H', Stp F H F' H' → RvA K r v F' H' H → P r → Q v H') ∧ ∀ x F' H', Stp F H F' H' → R x → ExV K (fun u d => E u d H') x F'
/-- an __init__: what stands at the new object behind it -/
abbrev ISp := List Dat → (Dat → Prop) → (Exn → Prop) → Prop
def liftI (K : PySem.W.Frag) (C : Str) (s : ISp) : Sp := fun vs H Q E => ∃ p dx vs' F ds P R, vs = .ref p :: vs' ∧ H p = some (.ins (He.ga K C) dx []) ∧ Ex F H ∧ F p = none ∧ Isl K ds vs' F ∧ s ds P R ∧
  (∀ ks es ws dy F' H', Cur (some p) F H F' H' → H' p = some (.ins (He.ga K C) dy (ks.zip ws)) → ks.length = ws.length → Isl K es ws F' → P (.ins C ks es) → Q .non H') ∧
  ∀ x F' H', Cur (some p) F H F' H' → R x → ExV K (fun u d => E u d H') x F'
/-- a def whose first argument is a list that it changes -/
abbrev NSp := List Dat → List Dat → (Rv → List Dat → Prop) → (Exn → List Dat → Prop) → Prop
def liftN (K : PySem.W.Frag) (s : NSp) : Sp := fun vs H Q E => ∃ p vs' us F ds es P R, vs = .ref p :: vs' ∧ H p = some (.lst us) ∧ Ex F H ∧ F p = none ∧ Isl K es us F ∧ Isl K ds vs' F ∧ s es ds P R ∧
  (∀ r v es' us' F' H', Cur (some p) F H F' H' → H' p = some (.lst us') → Isl K es' us' F' → RvA K r v F' H' H → P r es' → Q v H') ∧
  ∀ x es' us' F' H', Cur (some p) F H F' H' → H' p = some (.lst us') → Isl K es' us' F' → R x es' → ExV K (fun u d => E u d H') x F'

theorem Cur.toStp {F0 H0 F H : Hp} (c : Cur none F0 H0 F H) : Stp F0 H0 F H := ⟨c.ff, fun a o h => c.hh a o (fun z => nomatch z) h, c.fh, c.pr⟩
theorem Isl.at {K : PySem.W.Frag} {ds : List Dat} {vs : List V} {F : Hp} (h : Isl K ds vs F) {m n i : Nat} {d : Dat} (e : (ds.map Sl.pu ++ List.replicate m Sl.no)[i]? = some (.pu d)) : ∃ v, (vs.map some ++ List.replicate n (none : Option V))[i]? = some (some v) ∧ Is K d v F := by
  by_cases hi : i < ds.length
  · rw [List.getElem?_append_left (by simpa using hi), List.getElem?_map] at e
    cases q : ds[i]? with
    | none => rw [q] at e; cases e
    | some d' =>
      rw [q] at e; cases e
      obtain ⟨v, h1, h2⟩ := h.get q
      refine ⟨v, ?_, h2⟩
      rw [List.getElem?_append_left (by simpa [← h.length] using hi), List.getElem?_map, h1]
      rfl
  · rw [List.getElem?_append_right (by simpa using hi), List.getElem?_replicate] at e
    split at e <;> cases e
theorem no_at {ds : List Dat} {m i : Nat} {s : Sl} (h : (ds.map Sl.pu ++ List.replicate m Sl.no)[i]? = some s) : s = .no ∨ ∃ d, s = .pu d := by
  by_cases hi : i < ds.length
  · rw [List.getElem?_append_left (by simpa using hi), List.getElem?_map] at h
    cases q : ds[i]? with
    | none => rw [q] at h; cases h
    | some d' => rw [q] at h; cases h; exact .inr ⟨_, rfl⟩
  · rw [List.getElem?_append_right (by simpa using hi), List.getElem?_replicate] at h
    split at h
    · cases h; exact .inl rfl
    · cases h
theorem Env1.start {K : PySem.W.Frag} {ds : List Dat} {vs : List V} {F H : Hp} (N : List Str) (h : Isl K ds vs F) : Env1 K (ds.map Sl.pu ++ List.replicate (N.length - ds.length) Sl.no) (L2.start N vs) none H F H := by
  refine ⟨fun i d e => h.at e, fun i l es e => ?_, fun i C ks es e => ?_, fun i j l m es fs a e => ?_, fun i j C D ks ls ds' es' e => ?_, ?_⟩
  · rcases no_at e with q | ⟨d, q⟩ <;> cases q
  · rcases no_at e with q | ⟨d, q⟩ <;> cases q
  · rcases no_at e with q | ⟨d, q⟩ <;> cases q
  · rcases no_at e with q | ⟨d, q⟩ <;> cases q
  · unfold L2.start
    simp [h.length]
theorem consL {ρ : List Sl} {s : Sl} {i : Nat} {t : Sl} (e : (s :: ρ)[i]? = some t) : (i = 0 ∧ t = s) ∨ ∃ j, i = j + 1 ∧ ρ[j]? = some t := by
  cases i with
  | zero => left; exact ⟨rfl, (Option.some.inj (by simpa using e)).symm⟩
  | succ j => right; exact ⟨j, rfl, by simpa using e⟩
theorem Env1.startI {K : PySem.W.Frag} {ds : List Dat} {vs : List V} {F H : Hp} {p dx : Addr} {C : Str} (N : List Str) (h : Isl K ds vs F) (hp : H p = some (.ins (He.ga K C) dx [])) (hf : F p = none) :
    Env1 K (Sl.ob C [] [] :: (ds.map Sl.pu ++ List.replicate (N.length - (ds.length + 1)) Sl.no)) (L2.start N (.ref p :: vs)) (some p) H F H := by
  have es : L2.start N (V.ref p :: vs) = some (.ref p) :: (vs.map some ++ List.replicate (N.length - (vs.length + 1)) none) := rfl
  rw [es]
  refine ⟨fun i d e => ?_, fun i l fs e => ?_, fun i C' ks fs e => ?_, fun i j l m fs gs a e => ?_, fun i j C' D ks ls ds' es' e1 e2 => ?_, ?_⟩
  · rcases consL e with ⟨_, q⟩ | ⟨j, rfl, q⟩
    · cases q
    · rw [List.getElem?_cons_succ]
      rw [← h.length]
      exact h.at q
  · rcases consL e with ⟨_, q⟩ | ⟨j, rfl, q⟩
    · cases q
    · rcases no_at q with q | ⟨d, q⟩ <;> cases q
  · rcases consL e with ⟨rfl, q⟩ | ⟨j, rfl, q⟩
    · cases q
      exact ⟨p, dx, [], rfl, rfl, hf, hp, rfl, .nil⟩
    · rcases no_at q with q | ⟨d, q⟩ <;> cases q
  · rcases consL e with ⟨_, q⟩ | ⟨j, rfl, q⟩
    · cases q
    · rcases no_at q with q | ⟨d, q⟩ <;> cases q
  · rcases consL e1 with ⟨rfl, q⟩ | ⟨i', rfl, q⟩
    · rcases consL e2 with ⟨rfl, q⟩ | ⟨j', rfl, q⟩
      · rfl
      · rcases no_at q with q | ⟨d, q⟩ <;> cases q
    · rcases no_at q with q | ⟨d, q⟩ <;> cases q
  · simp [h.length]
theorem Env1.startN {K : PySem.W.Frag} {ds es : List Dat} {vs us : List V} {F H : Hp} {p : Addr} (N : List Str) (h : Isl K ds vs F) (hp : H p = some (.lst us)) (hu : Isl K es us F) (hf : F p = none) :
    Env1 K (Sl.ow true es :: (ds.map Sl.pu ++ List.replicate (N.length - (ds.length + 1)) Sl.no)) (L2.start N (.ref p :: vs)) (some p) H F H := by
  have e0 : L2.start N (V.ref p :: vs) = some (.ref p) :: (vs.map some ++ List.replicate (N.length - (vs.length + 1)) none) := rfl
  rw [e0]
  refine ⟨fun i d e => ?_, fun i l fs e => ?_, fun i C' ks fs e => ?_, fun i j l m fs gs a e1 e2 _ _ => ?_, fun i j C' D ks ls ds' es' e => ?_, ?_⟩
  · rcases consL e with ⟨_, q⟩ | ⟨j, rfl, q⟩
    · cases q
    · rw [List.getElem?_cons_succ]
      rw [← h.length]
      exact h.at q
  · rcases consL e with ⟨rfl, q⟩ | ⟨j, rfl, q⟩
    · cases q
      exact ⟨p, us, rfl, hf, hp, hu, fun _ => rfl, fun z => nomatch z⟩
    · rcases no_at q with q | ⟨d, q⟩ <;> cases q
  · rcases consL e with ⟨_, q⟩ | ⟨j, rfl, q⟩
    · cases q
    · rcases no_at q with q | ⟨d, q⟩ <;> cases q
  · rcases consL e1 with ⟨rfl, q⟩ | ⟨i', rfl, q⟩
    · rcases consL e2 with ⟨rfl, q⟩ | ⟨j', rfl, q⟩
      · rfl
      · rcases no_at q with q | ⟨d, q⟩ <;> cases q
    · rcases no_at q with q | ⟨d, q⟩ <;> cases q
  · rcases consL e with ⟨_, q⟩ | ⟨j, rfl, q⟩
    · cases q
    · rcases no_at q with q | ⟨d, q⟩ <;> cases q
  · simp [h.length]

/-! ### a def keeps its promise by its body -/
section
variable {P : Program} {w : World} {K : PySem.W.Frag} {mg : Str → Option Value} {base : Heap} {x qual : Str} {params : Arguments} {body : List Stmt} {scope : Scope} {dvs : List V} {kws : List (Str × V)} {f : Addr} {fd : FuncData} {N ps : List Str} {k : Nat}
abbrev wxE (E : XK) : WX := fun cls d _ H => E cls d H
/-- the context of a def's body -/
abbrev cxB (P : Program) (w : World) (K : PySem.W.Frag) (mg : Str → Option Value) (base : Heap) (N : List Str) (qual : Str) (scope : Scope) (f : Addr) (cdv : Value) (A : Around) (outer : List Env) (s : Shared) (H : Hp) (E : XK) : Cx :=
  cxOf (L2.CX P w) P w K mg base N qual scope f cdv A outer s H E
theorem takesB {qual : Str} {scope : Scope} {cdv : Value} {A : Around} {outer : List Env} {s : Shared} {H : Hp} {E : XK} : Takes (cxB P w K mg base N qual scope f cdv A outer s H E) (wxE E) := takes_of rfl rfl rfl rfl
theorem def_ok {s : DSp} (F : FunD K x qual params body scope dvs kws f fd) (S : FnScope N ps scope) (len : ∀ ds P R, s ds P R → ds.length = ps.length)
    (hb : ∀ (cdv : Value) (A : Around) (outer : List Env) (s0 : Shared) (H : Hp) (E : XK) (ds : List Dat) (Pd : Rv → Prop) (R : Exn → Prop), Room k (A.deeper (PyProof.Rows.envOfC qual scope s0.heap.objs.size f cdv)) → s ds Pd R →
      WSs (cxB P w K mg base N qual scope f cdv A outer s0 H E) (wxE E) (fun x _ => R x) body (ds.map Sl.pu ++ List.replicate (N.length - ds.length) Sl.no) { nx := fun _ => Pd (.pu dN), rt := fun d _ => Pd d }) : FnOk P w K mg base (L2.CX P w) (k + 1) f fd ps (lift K s) := by
  refine F.ok S (fun vs H Q E h => ?_) (fun cdv A outer s0 H vs Q E hr h => ?_)
  · obtain ⟨F, ds, Pd, R, _, hi, hs, _⟩ := h
    rw [← hi.length]
    exact len _ _ _ hs
  · obtain ⟨F, ds, Pd, R, e, hi, hs, hq, hx⟩ := h
    refine ⟨tUSs _ (wxE E) body, pss_U, _, _, fun x _ => R x, none, F, H, F, hb cdv A outer s0 H E ds Pd R hr hs, Cur.start e, Env1.start N hi, ?_, ?_⟩
    · exact fun x ρ σ F' H' c' _ r => hx x F' H' c'.toStp r
    · exact ⟨fun ρ σ F' H' c' _ p => hq (.pu dN) .non F' H' c'.toStp (.pu .v) p, fun d v ρ σ F' H' c' _ hd p => hq d v F' H' c'.toStp hd p, fun _ _ _ _ _ _ p => p.elim, fun _ _ _ _ _ _ p => p.elim⟩
theorem init_ok {s : ISp} {C : Str} (F : FunD K x qual params body scope dvs kws f fd) (S : FnScope N ps scope) (len : ∀ ds P R, s ds P R → ds.length + 1 = ps.length)
    (hb : ∀ (cdv : Value) (A : Around) (outer : List Env) (s0 : Shared) (H : Hp) (E : XK) (ds : List Dat) (Pd : Dat → Prop) (R : Exn → Prop), Room k (A.deeper (PyProof.Rows.envOfC qual scope s0.heap.objs.size f cdv)) → s ds Pd R →
      WSs (cxB P w K mg base N qual scope f cdv A outer s0 H E) (wxE E) (fun x _ => R x) body (Sl.ob C [] [] :: (ds.map Sl.pu ++ List.replicate (N.length - (ds.length + 1)) Sl.no))
        { nx := fun ρ => ∃ ks es, ρ[0]? = some (.ob C ks es) ∧ Pd (.ins C ks es), rt := fun _ _ => False }) : FnOk P w K mg base (L2.CX P w) (k + 1) f fd ps (liftI K C s) := by
  refine F.ok S (fun vs H Q E h => ?_) (fun cdv A outer s0 H vs Q E hr h => ?_)
  · obtain ⟨p, dx, vs', F, ds, Pd, R, rfl, _, _, _, hi, hs, _⟩ := h
    rw [List.length_cons, ← hi.length]
    exact len _ _ _ hs
  · obtain ⟨p, dx, vs', F, ds, Pd, R, rfl, hp, e, hf, hi, hs, hq, hx⟩ := h
    refine ⟨tUSs _ (wxE E) body, pss_U, _, _, fun x _ => R x, some p, F, H, F, hb cdv A outer s0 H E ds Pd R hr hs, Cur.startN e hp hf, Env1.startI N hi hp hf, ?_, ?_⟩
    · exact fun x ρ σ F' H' c' _ r => hx x F' H' c' r
    · refine ⟨fun ρ σ F' H' c' n' p' => ?_, fun _ _ _ _ _ _ _ _ _ p => p.elim, fun _ _ _ _ _ _ p => p.elim, fun _ _ _ _ _ _ p => p.elim⟩
      obtain ⟨ks, es, h0, hP⟩ := p'
      obtain ⟨a, dx', ws, h1, h2, h3, h4, h5, h6⟩ := n'.ob 0 C ks es h0
      cases h2
      exact hq ks es ws dx' F' H' c' h4 h5 h6 hP
theorem defN_ok {s : NSp} (F : FunD K x qual params body scope dvs kws f fd) (S : FnScope N ps scope) (len : ∀ es ds P R, s es ds P R → ds.length + 1 = ps.length)
    (hb : ∀ (cdv : Value) (A : Around) (outer : List Env) (s0 : Shared) (H : Hp) (E : XK) (es ds : List Dat) (Pd : Rv → List Dat → Prop) (R : Exn → List Dat → Prop), Room k (A.deeper (PyProof.Rows.envOfC qual scope s0.heap.objs.size f cdv)) → s es ds Pd R →
      WSs (cxB P w K mg base N qual scope f cdv A outer s0 H E) (wxE E) (fun x ρ => ∃ es', ρ[0]? = some (.ow true es') ∧ R x es') body (Sl.ow true es :: (ds.map Sl.pu ++ List.replicate (N.length - (ds.length + 1)) Sl.no))
        { nx := fun ρ => ∃ es', ρ[0]? = some (.ow true es') ∧ Pd (.pu dN) es', rt := fun d ρ => ∃ es', ρ[0]? = some (.ow true es') ∧ Pd d es' }) : FnOk P w K mg base (L2.CX P w) (k + 1) f fd ps (liftN K s) := by
  refine F.ok S (fun vs H Q E h => ?_) (fun cdv A outer s0 H vs Q E hr h => ?_)
  · obtain ⟨p, vs', us, F, ds, es, Pd, R, rfl, _, _, _, _, hi, hs, _⟩ := h
    rw [List.length_cons, ← hi.length]
    exact len _ _ _ _ hs
  · obtain ⟨p, vs', us, F, ds, es, Pd, R, rfl, hp, e, hf, hu, hi, hs, hq, hx⟩ := h
    have fin : ∀ {r v ρ σ F' H'}, Cur (some p) F H F' H' → Env1 K ρ σ (some p) H F' H' → RvA K r v F' H' H → (∃ es', ρ[0]? = some (.ow true es') ∧ Pd r es') → Q v H' := fun {d v ρ σ F' H'} c' n' hd p' => by
      obtain ⟨es', h1, hP⟩ := p'
      obtain ⟨a, ws, g1, g2, g3, g4, g5, _⟩ := n'.ow 0 true es' h1
      cases g5 rfl
      exact hq d v es' ws F' H' c' g3 g4 hd hP
    refine ⟨tUSs _ (wxE E) body, pss_U, _, _, (fun x ρ => ∃ es', ρ[0]? = some (.ow true es') ∧ R x es'), some p, F, H, F, hb cdv A outer s0 H E es ds Pd R hr hs, Cur.startN e hp hf, Env1.startN N hi hp hu hf, fun x ρ σ F' H' c' n' p' => ?_, ?_⟩
    · obtain ⟨es', h1, hR⟩ := p'
      obtain ⟨a, ws, g1, g2, g3, g4, g5, _⟩ := n'.ow 0 true es' h1
      cases g5 rfl
      exact hx x es' ws F' H' c' g3 g4 hR
    refine ⟨fun ρ σ F' H' c' n' p' => ?_, fun d v ρ σ F' H' c' n' hd p' => ?_, fun _ _ _ _ _ _ p => p.elim, fun _ _ _ _ _ _ p => p.elim⟩
    · exact fin c' n' (.pu .v) p'
    · exact fin c' n' hd p'
end
end Sf
namespace Sf
open PySem L2

/-! ### what stands behind the top: a def, a method, a class -/
structure Fg (P : Program) (w : World) (K : PySem.W.Frag) (mg : Str → Option Value) (base : Heap) (x : Str) (k : Nat) (dd : List V) (s : DSp) : Prop where
  ex : ∃ f fd ps ds, FnOk P w K mg base (L2.CX P w) k f fd ps (lift K s) ∧ mg x = some (.ref f) ∧ PySem.W.keepIn K (.ref f) = true ∧ Binds K fd ps ds ∧ Vals dd ds
structure FgN (P : Program) (w : World) (K : PySem.W.Frag) (mg : Str → Option Value) (base : Heap) (x : Str) (k : Nat) (s : NSp) : Prop where
  ex : ∃ f fd ps, FnOk P w K mg base (L2.CX P w) k f fd ps (liftN K s) ∧ mg x = some (.ref f) ∧ PySem.W.keepIn K (.ref f) = true ∧ Binds K fd ps []
structure Mg (P : Program) (w : World) (K : PySem.W.Frag) (mg : Str → Option Value) (base : Heap) (C : Addr) (m : Str) (k : Nat) (dd : List V) (s : DSp) : Prop where
  ex : ∃ f fd ps ds, FnOk P w K mg base (L2.CX P w) k f fd ps (lift K s) ∧ Meth K C m f ∧ Binds K fd ps ds ∧ Vals dd ds
structure Kg (P : Program) (w : World) (K : PySem.W.Frag) (mg : Str → Option Value) (base : Heap) (x : Str) (k : Nat) (dd : List V) (s : ISp) : Prop where
  ex : ∃ f fd ps ds, FnOk P w K mg base (L2.CX P w) k f fd ps (liftI K x s) ∧ Mk K (He.ga K x) f ∧ mg x = some (.ref (He.ga K x)) ∧ Binds K fd ps ds ∧ Vals dd ds
theorem Fg.mono {P w K mg base x k k' dd s} (h : Fg P w K mg base x k dd s) (l : k ≤ k') : Fg P w K mg base x k' dd s := let ⟨f, fd, ps, ds, a, b⟩ := h.ex; ⟨f, fd, ps, ds, a.mono l, b⟩
theorem Mg.mono {P w K mg base C m k k' dd s} (h : Mg P w K mg base C m k dd s) (l : k ≤ k') : Mg P w K mg base C m k' dd s := let ⟨f, fd, ps, ds, a, b⟩ := h.ex; ⟨f, fd, ps, ds, a.mono l, b⟩
theorem isl_v {K : PySem.W.Frag} {F : Hp} : ∀ vs : List V, Isl K (vs.map Dat.v) vs F
  | [] => .nil
  | _ :: vs => .cons .v (isl_v vs)
theorem lookup_no {ks : List Str} {m : Str} (h : m ∉ ks) : ∀ vs : List V, (ks.zip vs).lookup m = none := by
  induction ks with
  | nil => intro vs; rfl
  | cons k ks ih =>
    intro vs
    cases vs with
    | nil => rfl
    | cons v vs =>
      rw [List.zip_cons_cons, List.lookup_cons]
      have h1 : (m == k) = false := by
        have : m ≠ k := fun z => h (z ▸ List.mem_cons_self)
        simpa using this
      rw [h1]
      exact ih (fun z => h (List.mem_cons_of_mem _ z)) vs

section
variable {X : Cx} {W : WX} {R : RX} {e a b c o : Expr} {es : List Expr} {st : Stmt} {sts rest : List Stmt} {ρ : List Sl} {P : PD} {k : Kn} {pos pos' p apos : Pos} {x m : Str} {l : Nat} {dd : List V} {s : DSp}
/-- what a call hands on -/
theorem not_there {na : Option Addr} {F0 H0 F H : Hp} {a : Addr} (c : Cur na F0 H0 F H) (ha : H a = none) : H0 a = none := by
  cases q0 : H0 a with
  | none => rfl
  | some u =>
    by_cases z : na = some a
    · obtain ⟨⟨o, ho⟩, _⟩ := c.lv a z
      rw [ha] at ho; cases ho
    · rw [c.hh a u z q0] at ha; cases ha
theorem not_at {K : PySem.W.Frag} {σ : L2.St} {na : Option Addr} {H0 F H : Hp} {a : Addr} (n : Env1 K ρ σ na H0 F H) (ha : H a = none) : NotAt ρ σ a := fun i l es hi z => by
  obtain ⟨b, ws, y1, y2, y3, _⟩ := n.ow i l es hi
  rw [z] at y1; cases y1
  rw [ha] at y3; cases y3
theorem rve_of {K : PySem.W.Frag} {σ : L2.St} {na : Option Addr} {F0 H0 F H F' H' : Hp} {r : Rv} {v : V} (c : Cur na F0 H0 F H) (n : Env1 K ρ σ na H0 F H) (h : RvA K r v F' H' H) : RvE K ρ σ r v F' H' H0 := by
  cases h with
  | pu h => exact .pu h
  | fr h0 hf hh hs => exact .fr (not_there c h0) hf hh hs (not_at n h0)
/-- what a call hands on -/
theorem lift_go {PV' : PV} {na : Option Addr} {F0 H0 F H : Hp} {σ : L2.St} {Q : VK} {ds : List Dat} {vs : List V} (hs : s (ds ++ dd.map Dat.v) (fun r => PV' r ρ) (fun x => R x ρ)) (hi : Isl X.K ds vs F) (c : Cur na F0 H0 F H) (n : Env1 X.K ρ σ na H0 F H) (xo : ExcOk X.K W R na F0 H0)
    (q : ∀ r v ρ' F' H', Cur na F0 H0 F' H' → Env1 X.K ρ' σ na H0 F' H' → RvE X.K ρ' σ r v F' H' H0 → PV' r ρ' → Q v H') : lift X.K s (vs ++ dd) H Q (L2.WE W σ) :=
  ⟨F, _, _, _, c.fh, hi.append (isl_v dd), hs, fun r v F' H' st hd p => q r v ρ F' H' (c.stp st) (n.stp st) (rve_of c n hd) p, fun x F' H' st r => xo x ρ σ F' H' (c.stp st) (n.stp st) r⟩
theorem wv_call {PV' : PV} (G : Fg X.prog X.w X.K X.mg X.base x l dd s) (hr : Room l X.A) (tk : Takes X W) (h : WA X W R (e :: es) ρ fun ds ρ' => s (ds ++ dd.map Dat.v) (fun d => PV' d ρ') (fun x => R x ρ'))
    (hg : Gl X x := by rfl) (hdb : (x == ("__debug__" : Str)) = false := by decide) (he : starEach (e :: es) X.env = (false, eval e X.env) :: starEach es X.env := by rfl) (hpl : (backTo pos (starEach es X.env)).any (·.1) = false := by rfl) : WV X W R (.Call (.Name x p) (e :: es) [] pos) ρ PV' := by
  obtain ⟨f, fd, ps, ds, F, hm, hk, hb, hd⟩ := G.ex
  exact .of (pe_callSD F hr hg hm hk hb hd (fun σ => passAt tk σ) (pa_U (W := W)) hdb he hpl) fun σ na F0 H0 F H Q c n xo q => ⟨ρ, _, R, na, F0, H0, F, h, c, n, xo, fun ds vs ρ' F' H' c' n' hi hs => lift_go hs hi c' n' xo q⟩
/-- a call whose first argument is the slot of an own (or lent) list -/
theorem wv_callN {PV' : PV} {s : NSp} {x1 : Str} {p1 : Pos} (i : Nat) (G : FgN X.prog X.w X.K X.mg X.base x l s) (hr : Room l X.A) (tk : Takes X W) (hi : ∃ lb us, ρ[i]? = some (.ow lb us))
    (h : WA X W R es ρ fun ds ρ' => ∃ lb us, ρ'[i]? = some (.ow lb us) ∧ s us ds (fun r us' => PV' r (ρ'.set i (.ow lb us'))) (fun x us' => R x (ρ'.set i (.ow lb us')))) (hN : X.N[i]? = some x1 := by rfl) (hv : Vis X.env.scope x1 := by first | exact Or.inl rfl | exact Or.inr (Or.inl rfl) | exact Or.inr (Or.inr rfl)) (hd : (x1 == ("__debug__" : Str)) = false := by decide)
    (hcd : (x1 == ("__classdict__" : Str)) = false := by decide)
    (hg : Gl X x := by rfl) (hdb : (x == ("__debug__" : Str)) = false := by decide) (hs1 : starEach (.Name x1 p1 :: es) X.env = (false, eval (.Name x1 p1) X.env) :: starEach es X.env := by rfl) (hpl : (backTo pos (starEach es X.env)).any (·.1) = false := by rfl) : WV X W R (.Call (.Name x p) (.Name x1 p1 :: es) [] pos) ρ PV' := by
  obtain ⟨f, fd, ps, F, hm, hk, hb⟩ := G.ex
  refine .of (pe_callSD F hr hg hm hk hb .nil (fun σ => passAt tk σ) (pa_cons (pe_var hN hv hd hcd) (pa_U (W := W)) hs1) hdb hs1 hpl) fun σ na F0 H0 F H Q c n xo q => ?_
  obtain ⟨lb0, us0, hi⟩ := hi
  obtain ⟨a0, vs0, g1, _⟩ := n.ow i lb0 us0 hi
  refine ⟨.ref a0, g1, ρ, _, R, na, F0, H0, F, h, c, n, xo, fun ds vs ρ' F' H' c' n' hds ⟨lb, us, hi', hs⟩ => ?_⟩
  obtain ⟨a, us', k1, k2, k3, k4, g5, g6⟩ := n'.ow i lb us hi'
  rw [g1] at k1
  cases k1
  have back : ∀ {es' : List Dat} {ws : List V} {F2 H2 : Hp}, Cur (some a0) F' H' F2 H2 → H2 a0 = some (.lst ws) → Isl X.K es' ws F2 → Cur na F0 H0 F2 H2 ∧ Env1 X.K (ρ'.set i (.ow lb es')) σ na H0 F2 H2 := fun {es' ws F2 H2} c2 w1 w2 => by
    have f2 : F2 a0 = none := (c2.lv a0 rfl).2
    have cc : Cur na F0 H0 F2 H2 := by
      refine ⟨c'.ff.trans c2.ff, fun b u nb hb' => ?_, c2.fh, fun b u h1 h2 => ?_, fun b hb' => ?_, c'.nz⟩
      · by_cases q0 : b = a0
        · subst q0
          cases lb with
          | true => exact absurd (g5 rfl) nb
          | false => rw [g6 rfl] at hb'; cases hb'
        · exact c2.hh b u (fun z => q0 (Option.some.inj z).symm) (c'.hh b u nb hb')
      · by_cases q0 : na = some b
        · obtain ⟨⟨u', hu'⟩, hf⟩ := c'.lv b q0
          exact c2.pr b u' hu' hf
        · exact c2.pr b u (c'.hh b u q0 h1) (c'.pr b u h1 h2)
      · obtain ⟨⟨u', hu'⟩, hf⟩ := c'.lv b hb'
        refine ⟨?_, c2.pr b u' hu' hf⟩
        by_cases q0 : b = a0
        · subst q0; exact ⟨_, w1⟩
        · exact ⟨u', c2.hh b u' (fun z => q0 (Option.some.inj z).symm) hu'⟩
    have other : ∀ (j : Nat) (t : Sl), (ρ'.set i (.ow lb es'))[j]? = some t → (i = j ∧ t = .ow lb es') ∨ (i ≠ j ∧ ρ'[j]? = some t) := fun j t ht => by
      by_cases q0 : i = j
      · subst q0
        rw [List.getElem?_set_self (by exact (List.getElem?_eq_some_iff.mp hi').1)] at ht
        exact .inl ⟨rfl, (Option.some.inj ht).symm⟩
      · rw [List.getElem?_set_ne q0] at ht
        exact .inr ⟨q0, ht⟩
    refine ⟨cc, fun j d' h1 => ?_, fun j l' ds' h1 => ?_, fun j C ks ds' h1 => ?_, fun j j' l1 l2 ds1 es1 b h1 h2 h3 h4 => ?_, fun j j' C D ks ls ds1 es1 h1 h2 => ?_, by rw [List.length_set]; exact n'.ln⟩
    · rcases other j _ h1 with ⟨_, z⟩ | ⟨_, z⟩
      · cases z
      · obtain ⟨v', y1, y2⟩ := n'.pu j d' z
        exact ⟨v', y1, y2.mono c2.ff⟩
    · rcases other j _ h1 with ⟨e1, z⟩ | ⟨q0, z⟩
      · subst e1
        cases z
        exact ⟨a0, ws, g1, f2, w1, w2, g5, g6⟩
      · obtain ⟨b, ws', y1, y2, y3, y4, y5⟩ := n'.ow j l' ds' z
        have nb : b ≠ a0 := fun z' => by
          subst z'
          exact q0 (n'.ap i j lb l' us ds' b hi' z g1 y1)
        exact ⟨b, ws', y1, c2.pr b _ y3 y2, c2.hh b _ (fun z => nb (Option.some.inj z).symm) y3, y4.mono c2.ff, y5⟩
    · rcases other j _ h1 with ⟨_, z⟩ | ⟨q0, z⟩
      · cases z
      · obtain ⟨b, dx, ws', y1, y2, y3, y4, y5, y6⟩ := n'.ob j C ks ds' z
        have nb : b ≠ a0 := fun z' => by subst z'; rw [k3] at y4; cases y4
        exact ⟨b, dx, ws', y1, y2, c2.pr b _ y4 y3, c2.hh b _ (fun z => nb (Option.some.inj z).symm) y4, y5, y6.mono c2.ff⟩
    · rcases other j _ h1 with ⟨e1, z1⟩ | ⟨q1, z1⟩
      · rcases other j' _ h2 with ⟨e2, z2⟩ | ⟨q2, z2⟩
        · exact e1.symm.trans e2
        · subst e1
          rw [g1] at h3
          cases h3
          exact n'.ap i j' lb l2 us es1 a0 hi' z2 g1 h4
      · rcases other j' _ h2 with ⟨e2, z2⟩ | ⟨q2, z2⟩
        · subst e2
          rw [g1] at h4
          cases h4
          exact n'.ap j i l1 lb ds1 us a0 z1 hi' h3 g1
        · exact n'.ap j j' l1 l2 ds1 es1 b z1 z2 h3 h4
    · rcases other j _ h1 with ⟨_, z1⟩ | ⟨_, z1⟩
      · cases z1
      · rcases other j' _ h2 with ⟨_, z2⟩ | ⟨_, z2⟩
        · cases z2
        · exact n'.ao j j' C D ks ls ds1 es1 z1 z2
  refine ⟨a0, vs, us', F', ds, us, _, _, by rw [List.append_nil], k3, c'.fh, k2, k4, hds, hs, fun r v es' ws F2 H2 c2 w1 w2 hd2 p2 => ?_, fun x es' ws F2 H2 c2 w1 w2 hR => ?_⟩
  · obtain ⟨cc, nn⟩ := back c2 w1 w2
    refine q r v _ F2 H2 cc nn ?_ p2
    cases hd2 with
    | pu h => exact .pu h
    | fr h0 hf hh hs' =>
      refine .fr (not_there c' h0) hf hh hs' fun j l' ds' hj z => ?_
      by_cases q0 : i = j
      · subst q0
        rw [g1] at z; cases z
        rw [k3] at h0; cases h0
      · rw [List.getElem?_set_ne q0] at hj
        exact not_at n' h0 j l' ds' hj z
  · obtain ⟨cc, nn⟩ := back c2 w1 w2
    exact xo x _ σ F2 H2 cc nn hR

/-! ### methods -/
theorem pe_methU {pl : Sem Bool} (hr : Room l X.A) (tk : Takes X W)
    (hst : starEach (e :: es) X.env = (false, eval e X.env) :: starEach es X.env := by rfl) (hpl : (backTo pos (starEach es X.env)).any (·.1) = false := by rfl)
    (ht : eval (.Call (.Attribute o m apos) (e :: es) [] pos) X.env = (do
      let ov ← eval o X.env
      standAt apos.atName
      let (f, first) ← holding [ov] (getMethod ov m pl)
      callWith pos f first (backTo pos (starEach (e :: es) X.env)) (backToKw pos (keywordEach [] X.env))) := by rfl) :
    PE X (.Call (.Attribute o m apos) (e :: es) [] pos) (fun σ H Q => tU X W o σ H fun v H1 => ∃ (a C dx : Addr) (fs : List (Str × V)) (dd : List V) (s : DSp), v = .ref a ∧ H1 a = some (.ins C dx fs) ∧ Cls X.K C ∧ Mg X.prog X.w X.K X.mg X.base C m l dd s ∧ fs.lookup m = none ∧
      tUA X W (e :: es) σ H1 fun vs H2 => lift X.K s (v :: (vs ++ dd)) H2 Q (L2.WE W σ)) := by
  refine ⟨fun pins s σ H Q I h => ?_⟩
  refine PySem.W.methodCall_KW (pl := pl) (thn ((pe_U (W := W)).run pins s σ H _ I h) fun u s1 ⟨v, H1, I1, rx, a, C, dx, fs, dd, sp, ex, ea, cl, G, lk, q⟩ => ?_) ht
  subst ex
  obtain rfl : u = Value.ref a := rx
  obtain ⟨f, fd, ps, ds, F, hm, hb, hd⟩ := G.ex
  refine getmeth_ok I1 ea cl hm lk ?_
  refine PySem.W.callWith_K (first := [.ref a]) (h₀ := X.base) I.ok.mod.kin hm.kp (thn ((pa_U (W := W)).run pos pins s1 σ H1 _ I1 q) fun us s2 ⟨vs, H2, I2, r, q2⟩ => ⟨I2.kIn, ?_⟩) hst hpl
  exact run_fnSD (us := .ref a :: us) (vs := .ref a :: vs) F hr hb hd (passAt tk σ) I2 (.cons rfl r) q2
theorem pe_methU0 {pl : Sem Bool} (hr : Room l X.A) (tk : Takes X W)
    (ht : eval (.Call (.Attribute o m apos) [] [] pos) X.env = (do
      let ov ← eval o X.env
      standAt apos.atName
      let (f, first) ← holding [ov] (getMethod ov m pl)
      callWith pos f first (backTo pos (starEach [] X.env)) (backToKw pos (keywordEach [] X.env))) := by rfl) :
    PE X (.Call (.Attribute o m apos) [] [] pos) (fun σ H Q => tU X W o σ H fun v H1 => ∃ (a C dx : Addr) (fs : List (Str × V)) (dd : List V) (s : DSp), v = .ref a ∧ H1 a = some (.ins C dx fs) ∧ Cls X.K C ∧ Mg X.prog X.w X.K X.mg X.base C m l dd s ∧ fs.lookup m = none ∧
      lift X.K s (v :: dd) H1 Q (L2.WE W σ)) := by
  refine ⟨fun pins s σ H Q I h => ?_⟩
  refine PySem.W.methodCall_KW (pl := pl) (thn ((pe_U (W := W)).run pins s σ H _ I h) fun u s1 ⟨v, H1, I1, rx, a, C, dx, fs, dd, sp, ex, ea, cl, G, lk, q⟩ => ?_) ht
  subst ex
  obtain rfl : u = Value.ref a := rx
  obtain ⟨f, fd, ps, ds, F, hm, hb, hd⟩ := G.ex
  refine getmeth_ok I1 ea cl hm lk ?_
  exact PySem.W.callWith_K0 (first := [.ref a]) I1.kIn hm.kp (run_fnSD (us := [.ref a]) (vs := [.ref a]) F hr hb hd (passAt tk σ) I1 (.cons rfl .nil) q)
theorem wv_meth {PV' : PV} {pl : Sem Bool} (hr : Room l X.A) (tk : Takes X W) (h : WE X W R o ρ fun d ρ' => ∃ C ks ds dd s, d = .ins C ks ds ∧ Cls X.K (He.ga X.K C) ∧ Mg X.prog X.w X.K X.mg X.base (He.ga X.K C) m l dd s ∧ m ∉ ks ∧
      WA X W R (e :: es) ρ' fun as ρ'' => s (d :: (as ++ dd.map Dat.v)) (fun d => PV' d ρ'') (fun C => R C ρ''))
    (hst : starEach (e :: es) X.env = (false, eval e X.env) :: starEach es X.env := by rfl) (hpl : (backTo pos (starEach es X.env)).any (·.1) = false := by rfl)
    (ht : eval (.Call (.Attribute o m apos) (e :: es) [] pos) X.env = (do
      let ov ← eval o X.env
      standAt apos.atName
      let (f, first) ← holding [ov] (getMethod ov m pl)
      callWith pos f first (backTo pos (starEach (e :: es) X.env)) (backToKw pos (keywordEach [] X.env))) := by rfl) : WV X W R (.Call (.Attribute o m apos) (e :: es) [] pos) ρ PV' :=
  .of (pe_methU (pl := pl) hr tk hst hpl ht) fun σ na F0 H0 F H Q c n xo q => ⟨ρ, _, R, na, F0, H0, F, h, c, n, xo, fun d v ρ' F' H' c' n' hd ⟨C, ks, ds, dd, sp, e0, cl, G, hk, p⟩ => by
    subst e0
    cases hd with
    | ins ha hz hs =>
      refine ⟨_, _, _, _, dd, sp, rfl, c'.fh _ _ ha, cl, G, lookup_no hk _, ρ', _, R, na, F', H0, F', p, c'.re, n', xo.re c', fun as vs ρ'' F'' H'' c'' n'' hi hsp => ?_⟩
      exact lift_go (ds := .ins C ks ds :: as) (vs := .ref _ :: vs) (dd := dd) hsp (.cons ((Is.ins ha hz hs).mono c''.ff) hi) (c'.back c'') n'' xo q⟩
theorem wv_meth0 {PV' : PV} {pl : Sem Bool} (hr : Room l X.A) (tk : Takes X W) (h : WE X W R o ρ fun d ρ' => ∃ C ks ds dd s, d = .ins C ks ds ∧ Cls X.K (He.ga X.K C) ∧ Mg X.prog X.w X.K X.mg X.base (He.ga X.K C) m l dd s ∧ m ∉ ks ∧ s (d :: dd.map Dat.v) (fun d => PV' d ρ') (fun C => R C ρ'))
    (ht : eval (.Call (.Attribute o m apos) [] [] pos) X.env = (do
      let ov ← eval o X.env
      standAt apos.atName
      let (f, first) ← holding [ov] (getMethod ov m pl)
      callWith pos f first (backTo pos (starEach [] X.env)) (backToKw pos (keywordEach [] X.env))) := by rfl) : WV X W R (.Call (.Attribute o m apos) [] [] pos) ρ PV' :=
  .of (pe_methU0 (pl := pl) hr tk ht) fun σ na F0 H0 F H Q c n xo q => ⟨ρ, _, R, na, F0, H0, F, h, c, n, xo, fun d v ρ' F' H' c' n' hd ⟨C, ks, ds, dd, sp, e0, cl, G, hk, p⟩ => by
    subst e0
    cases hd with
    | ins ha hz hs =>
      refine ⟨_, _, _, _, dd, sp, rfl, c'.fh _ _ ha, cl, G, lookup_no hk _, ?_⟩
      exact lift_go (ds := [.ins C ks ds]) (vs := [.ref _]) (dd := dd) p (.cons (Is.ins ha hz hs) .nil) c' n' xo q⟩

/-- .. as a datum -/
theorem lift_goD {na : Option Addr} {F0 H0 F H : Hp} {σ : L2.St} {Q : VK} {ds : List Dat} {vs : List V} (hs : s (ds ++ dd.map Dat.v) (fun r => P r.dat ρ) (fun x => R x ρ)) (hi : Isl X.K ds vs F) (c : Cur na F0 H0 F H) (n : Env1 X.K ρ σ na H0 F H) (xo : ExcOk X.K W R na F0 H0)
    (q : ∀ d v ρ' F' H', Cur na F0 H0 F' H' → Env1 X.K ρ' σ na H0 F' H' → Is X.K d v F' → P d ρ' → Q v H') : lift X.K s (vs ++ dd) H Q (L2.WE W σ) :=
  lift_go (PV' := fun r ρ' => P r.dat ρ') hs hi c n xo fun r v ρ' F' H' c' n' hr p => by
    cases hr with
    | pu hd => exact q _ v ρ' F' H' c' n' hd p
    | fr h0 hf hh hs hn =>
      obtain ⟨c2, n2, hd⟩ := frz_new c' n' h0 hf hh hs hn
      exact q _ _ ρ' _ H' c2 n2 hd p

/-! ### own operators -/
theorem cmp_back {Q : Value → Shared → Prop} {v : V} {u : Value} {s' : Shared} (r : RelV v u) (q : Q u s') : PySem.W.CmpBack Q u s' := by
  cases v with
  | non => cases (show u = Value.none from r); exact q
  | bl b => cases (show u = Value.bool b from r); exact q
  | int i => obtain ⟨t, e⟩ := (show ∃ t, u = Value.int i t from r); cases e; exact q
  | str x => obtain ⟨t, e⟩ := (show ∃ t, u = Value.str x t from r); cases e; exact q
  | byt x => obtain ⟨t, e⟩ := (show ∃ t, u = Value.bytes x t from r); cases e; exact q
  | flt x => obtain ⟨t, e⟩ := (show ∃ t, u = Value.float x t from r); cases e; exact q
  | ref a => cases (show u = Value.ref a from r); exact q
  | ty n => cases (show u = Value.type n from r); exact q
theorem od_own {op : Operator} {C : Str} {ks : List Str} {ds : List Dat} {ks2 : List Str} {ds2 : List Dat} (G : Mg X.prog X.w X.K X.mg X.base (He.ga X.K C) (PySem.dunder op.info.2) l [] s) (hc : PySem.W.selfFirst X.K (He.ga X.K C) = true) (hr : Room l X.A) (tk : Takes X W)
    (hs : s [.ins C ks ds, .ins C ks2 ds2] (fun r => P r.dat ρ) (fun x => R x ρ)) : OpD X W R (binaryOp op) (.ins C ks ds) (.ins C ks2 ds2) ρ P := by
  refine ⟨fun pins s0 σ na F0 H0 F H x y v u Q I c n xo h1 h2 r1 r2 q => ?_⟩
  have g1 := h1; have g2 := h2
  cases h1 with
  | ins ha hz hs1 =>
  cases h2 with
  | ins ha2 hz2 hs2 =>
  cases r1
  cases r2
  obtain ⟨f, fd, ps, dv, Fn, hm, hb, hd⟩ := G.ex
  cases hd
  obtain ⟨mA, J, _⟩ := ins_get I.hok (c.fh _ _ ha)
  obtain ⟨mB, J', _⟩ := ins_get I.hok (c.fh _ _ ha2)
  obtain ⟨od, J, _⟩ := J.look
  obtain ⟨od', J', _⟩ := J'.look
  obtain ⟨mm, hF⟩ := I.fr
  refine PySem.W.binop_K hF I.ok.mod.kin J J'.type hc hm.at_ hm.fn ?_
  refine wpAny_mono (run_fnSD (vs := [.ref _, .ref _]) (us := [.ref _, .ref _]) Fn hr hb .nil (passAt tk σ) I (.cons rfl (.cons rfl .nil)) (lift_goD (dd := []) (ds := [.ins C ks ds, .ins C ks2 ds2]) (vs := [.ref _, .ref _]) hs (.cons g1 (.cons g2 .nil)) c n xo q)) (fun v s' z => ?_) fun _ _ e => e
  obtain ⟨v', H', I', rv, qq⟩ := z
  have ok : EP X pins σ Q v s' := ⟨v', H', I', rv, qq⟩
  exact cmp_back rv ok
/-- the other side of another own class with the operator -/
theorem od_own2 {op : Operator} {g : Addr} {C D : Str} {ks : List Str} {ds : List Dat} {ks2 : List Str} {ds2 : List Dat} (G : Mg X.prog X.w X.K X.mg X.base (He.ga X.K C) (PySem.dunder op.info.2) l [] s) (hc : PySem.W.selfFirst X.K (He.ga X.K C) = true) (hcd : PySem.W.selfFirst X.K (He.ga X.K D) = true) (hne : He.ga X.K C ≠ He.ga X.K D)
    (h1 : PySem.W.findIn X.K (.ref (He.ga X.K C)) (PySem.dunderR op.info.2) = some none) (h2 : PySem.W.findIn X.K (.ref (He.ga X.K D)) (PySem.dunder op.info.2) = some (some (.ref g))) (h3 : PySem.W.findIn X.K (.ref (He.ga X.K D)) (PySem.dunderR op.info.2) = some none) (h4 : PySem.W.subIn X.K (.ref (He.ga X.K D)) (.ref (He.ga X.K C)) = some false)
    (hr : Room l X.A) (tk : Takes X W) (hs : s [.ins C ks ds, .ins D ks2 ds2] (fun r => P r.dat ρ) (fun x => R x ρ)) : OpD X W R (binaryOp op) (.ins C ks ds) (.ins D ks2 ds2) ρ P := by
  refine ⟨fun pins s0 σ na F0 H0 F H x y v u Q I c n xo i1 i2 r1 r2 q => ?_⟩
  have g1 := i1; have g2 := i2
  cases i1 with
  | ins ha hz hs1 =>
  cases i2 with
  | ins ha2 hz2 hs2 =>
  cases r1
  cases r2
  obtain ⟨f, fd, ps, dv, Fn, hm, hb, hd⟩ := G.ex
  cases hd
  obtain ⟨mA, J, _⟩ := ins_get I.hok (c.fh _ _ ha)
  obtain ⟨mB, J', _⟩ := ins_get I.hok (c.fh _ _ ha2)
  obtain ⟨od, J, _⟩ := J.look
  obtain ⟨od', J', _⟩ := J'.look
  obtain ⟨mm, hF⟩ := I.fr
  refine PySem.W.sf_bin2 hF I.ok.mod.kin J J'.type hne hc hcd hm.at_ hm.fn h1 (.inl rfl) h2 h3 (.inl rfl) h4 ?_
  refine wpAny_mono (run_fnSD (vs := [.ref _, .ref _]) (us := [.ref _, .ref _]) Fn hr hb .nil (passAt tk σ) I (.cons rfl (.cons rfl .nil)) (lift_goD (dd := []) (ds := [.ins C ks ds, .ins D ks2 ds2]) (vs := [.ref _, .ref _]) hs (.cons g1 (.cons g2 .nil)) c n xo q)) (fun v s' z => ?_) fun _ _ e => e
  obtain ⟨v', H', I', rv, qq⟩ := z
  exact cmp_back rv ⟨v', H', I', rv, qq⟩
/-- -a of an own class -/
theorem we_negO (hr : Room l X.A) (tk : Takes X W) (h : WE X W R a ρ fun d ρ' => ∃ C ks ds s, d = .ins C ks ds ∧ Mg X.prog X.w X.K X.mg X.base (He.ga X.K C) "__neg__" l [] s ∧ s [d] (fun r => P r.dat ρ') (fun x => R x ρ')) : WE X W R (.UnaryOp .USub a pos) ρ P := by
  refine ⟨fun pins s0 σ na F0 H0 F H Q I c n xo q => ?_⟩
  refine PyProof.Rows.UnaryOp_ (thn (h.run pins s0 σ na F0 H0 F H (fun x H1 => ∃ d ρ1 F1, Cur na F0 H0 F1 H1 ∧ Env1 X.K ρ1 σ na H0 F1 H1 ∧ Is X.K d x F1 ∧ ∃ C ks ds s, d = .ins C ks ds ∧ Mg X.prog X.w X.K X.mg X.base (He.ga X.K C) "__neg__" l [] s ∧ s [d] (fun r => P r.dat ρ1) (fun x => R x ρ1)) I c n xo fun d v ρ' F' H' c' n' hd p => ⟨d, ρ', F', c', n', hd, p⟩) fun v s1 ⟨x, H1, I1, r1, d, ρ1, F1, c1, n1, h1, C, ks, ds, sp, e0, G, hs⟩ => ?_)
  subst e0
  have g1 := h1
  cases h1 with
  | ins ha hz hs1 =>
  cases r1
  obtain ⟨f, fd, ps, dv, Fn, hm, hb, hd⟩ := G.ex
  cases hd
  obtain ⟨mA, J, _⟩ := ins_get I1.hok (c1.fh _ _ ha)
  obtain ⟨od, J, _⟩ := J.look
  obtain ⟨mm, hF⟩ := I1.fr
  exact PySem.W.ksp_neg hF I1.ok.mod.kin J hm.at_ hm.fn (run_fnSD (vs := [.ref _]) (us := [.ref _]) Fn hr hb .nil (passAt tk σ) I1 (.cons rfl .nil) (lift_goD (dd := []) (ds := [.ins C ks ds]) (vs := [.ref _]) hs (.cons g1 .nil) c1 n1 xo q))

/-! ### == and != by an own __eq__ -/
theorem run_in1 {pins : List (Addr × Obj)} {σ : L2.St} {H : Hp} {s0 : Shared} {Q : VK} {us : List Value} {vs : List V} {f : Addr} {fd : FuncData} {ps : List Str} {sp : Sp} (F : FnOk X.prog X.w X.K X.mg X.base (L2.CX X.prog X.w) l f fd ps sp) (hr : Room l X.A.in1) (hb : Binds X.K fd ps []) (tk : Takes X W)
    (I : Inv X pins σ H s0) (r : Vals vs us) (h : sp vs H Q (L2.WE W σ)) : wpAny (model X.prog X.w) X.A.in1 (call (.ref f) us) (EP X pins σ Q) X.xe s0 := by
  have hl : us.length = ps.length := by rw [← r.length]; exact F.len _ _ _ _ h
  have b := hb s0 us I.kIn (by rw [List.append_nil]; exact hl)
  rw [List.append_nil] at b
  refine wpAny_call (codeAny_mono (F.run X.A.in1 X.stack s0 H ⟨us, []⟩ us vs Q (L2.WE W σ) hr I.env0.in1 b r h) fun r s' hq => ?_)
  cases r with
  | error e => exact passAt tk σ pins H s0 e s' I hq
  | ok fl =>
    cases fl with
    | ret u => exact I.after hq
    | next => exact False.elim hq
    | brk => exact False.elim hq
    | cont => exact False.elim hq
/-- the type of a datum, as the deciders take it -/
inductive TyD (K : PySem.W.Frag) : Dat → Value → Prop where
  | non : TyD K dN (.type "NoneType")
  | bl (b : Bool) : TyD K (dB b) (.type "bool")
  | int (i : Int) : TyD K (dI i) (.type "int")
  | str (x : Str) : TyD K (dS x) (.type "str")
  | lst (ds : List Dat) : TyD K (.lst ds) (.type "list")
  | rol (ds : List Dat) : TyD K (.rol ds) (.type "list")
  | tup (ds : List Dat) : TyD K (.tup ds) (.type "tuple")
  | ins (C : Str) (ks : List Str) (ds : List Dat) : TyD K (.ins C ks ds) (.ref (He.ga K C))
theorem TyD.looks {M : Model} {s : Shared} {pins : List (Addr × Obj)} {σ : L2.St} {F H : Hp} {d : Dat} {t u : Value} {x : V} (ty : TyD X.K d t) (I : Inv X pins σ H s) (e : Ex F H) (h : Is X.K d x F) (r : RelV x u) : PySem.W.Looks M s.heap (typeOf u) t := by
  cases ty with
  | non => cases is_v h; cases (show u = Value.none from r); exact PySem.W.Looks.of_pure rfl
  | bl b => cases is_v h; cases (show u = Value.bool b from r); exact PySem.W.Looks.of_pure rfl
  | int i => cases is_v h; obtain ⟨t, z⟩ := (show ∃ t, u = Value.int i t from r); cases z; exact PySem.W.Looks.of_pure rfl
  | str i => cases is_v h; obtain ⟨t, z⟩ := (show ∃ t, u = Value.str i t from r); cases z; exact PySem.W.Looks.of_pure rfl
  | lst ds =>
    cases h with
    | lst ha hs =>
      cases r
      obtain ⟨_, _, n, _, h1⟩ := (show ObjOk X.prog X.w H s.heap _ (.lst _) from I.hok _ _ (e _ _ ha))
      exact fun A Q E s' k q => wpAny_typeOf_ref (k _ _ h1) q
  | rol ds =>
    cases h with
    | rol ha hs =>
      cases r
      rcases e.sql ha with (h | ⟨o, h⟩) | ⟨o, its, n, h1, h2, _⟩
      · obtain ⟨_, _, n, _, h1⟩ := (show ObjOk X.prog X.w H s.heap _ (.lst _) from I.hok _ _ h)
        exact fun A Q E s' k q => wpAny_typeOf_ref (k _ _ h1) q
      · obtain ⟨_, _, _, n, _, h1⟩ := (show ObjOk X.prog X.w H s.heap _ (.frz _ (.lst _)) from I.hok _ _ h)
        exact fun A Q E s' k q => wpAny_typeOf_ref (k _ _ h1) q
      · exact fun A Q E s' k q => wpAny_typeOf_ref (k _ _ (I.kIn _ _ h1)) (by rw [h2]; exact q)
  | tup ds =>
    cases h with
    | tup ha hs =>
      cases r
      obtain ⟨its, _, ⟨o, h1, h2, _⟩, _⟩ := I.tuple (e.sqt ha)
      exact fun A Q E s' k q => wpAny_typeOf_ref (k _ _ h1) (by rw [h2]; exact q)
  | ins C ks ds =>
    cases h with
    | ins ha hz hs =>
      cases r
      obtain ⟨mA, J, _⟩ := ins_get I.hok (e _ _ ha)
      obtain ⟨od, J, _⟩ := J.look
      exact J.type
theorem od_eqO {C : Str} {ks : List Str} {ds : List Dat} {d2 : Dat} {t : Value} (G : Mg X.prog X.w X.K X.mg X.base (He.ga X.K C) "__eq__" l [] s) (hr : Room l X.A) (tk : Takes X W) (ty : TyD X.K d2 t) (hn : PySem.W.notFirst X.K (He.ga X.K C) t = true)
    (hs : s [.ins C ks ds, d2] (fun r => P r.dat ρ) (fun x => R x ρ)) : OpD X W R (compareOp .Eq) (.ins C ks ds) d2 ρ P := by
  refine ⟨fun pins s0 σ na F0 H0 F H x y v u Q I c n xo i1 i2 r1 r2 q => ?_⟩
  have g1 := i1
  cases i1 with
  | ins ha hz hs1 =>
  cases r1
  obtain ⟨f, fd, ps, dv, Fn, hm, hb, hd⟩ := G.ex
  cases hd
  obtain ⟨mA, J, _⟩ := ins_get I.hok (c.fh _ _ ha)
  obtain ⟨od, J, _⟩ := J.look
  obtain ⟨mm, hF⟩ := I.fr
  show wpAny (model X.prog X.w) X.A (richCompare .Eq (.ref _) u) (EP X pins σ Q) X.xe s0
  refine PySem.W.cmp_K (op := .Eq) hr.units0 hF I.ok.mod.kin J (ty.looks I c.fh i2 r2) hn hm.at_ hm.fn ?_
  refine wpAny_mono (run_fnSD (vs := [.ref _, y]) (us := [.ref _, u]) Fn hr hb .nil (passAt tk σ) I (.cons rfl (.cons r2 .nil)) (lift_goD (dd := []) (ds := [.ins C ks ds, d2]) (vs := [.ref _, y]) hs (.cons g1 (.cons i2 .nil)) c n xo q)) (fun v s' z => ?_) fun _ _ e => e
  obtain ⟨v', H', I', rv, qq⟩ := z
  exact cmp_back rv ⟨v', H', I', rv, qq⟩
theorem od_neO {C : Str} {ks : List Str} {ds : List Dat} {d2 : Dat} {t : Value} (G : Mg X.prog X.w X.K X.mg X.base (He.ga X.K C) "__eq__" l [] s) (hr : Room (l + 1) X.A) (tk : Takes X W) (ty : TyD X.K d2 t) (hn : PySem.W.notFirst X.K (He.ga X.K C) t = true)
    (hne : PySem.W.findIn X.K (.ref (He.ga X.K C)) "__ne__" = some (some (.builtin "object.__ne__"))) (ho : PySem.W.subIn X.K (.ref (He.ga X.K C)) (.type "object") = some true)
    (hs : s [.ins C ks ds, d2] (fun r => ∃ b, r.dat = dB b ∧ P (dB (!b)) ρ) (fun x => R x ρ)) : OpD X W R (compareOp .NotEq) (.ins C ks ds) d2 ρ P := by
  refine ⟨fun pins s0 σ na F0 H0 F H x y v u Q I c n xo i1 i2 r1 r2 q => ?_⟩
  have g1 := i1
  cases i1 with
  | ins ha hz hs1 =>
  cases r1
  obtain ⟨f, fd, ps, dv, Fn, hm, hb, hd⟩ := G.ex
  cases hd
  obtain ⟨mA, J, _⟩ := ins_get I.hok (c.fh _ _ ha)
  obtain ⟨od, J, _⟩ := J.look
  obtain ⟨mm, hF⟩ := I.fr
  show wpAny (model X.prog X.w) X.A (richCompare .NotEq (.ref _) u) (EP X pins σ Q) X.xe s0
  refine PySem.W.sf_ne (by have := hr.un; omega) hF I.ok.mod.kin J (ty.looks I c.fh i2 r2) hn hne hm.at_ hm.fn ho ?_
  have z1 : lift X.K s ([.ref _, y] ++ []) H (fun v H' => ∃ b, v = .bl b ∧ Q (.bl (!b)) H') (L2.WE W σ) :=
    lift_goD (dd := []) (P := fun d ρ' => ∃ b, d = dB b ∧ P (dB (!b)) ρ') (ds := [.ins C ks ds, d2]) hs (.cons g1 (.cons i2 .nil)) c n xo fun d v ρ' F' H' c' n' hd ⟨b, e, p⟩ => by
      subst e
      exact ⟨b, is_v hd, q _ _ ρ' F' H' c' n' .v p⟩
  refine wpAny_mono (run_in1 (vs := [.ref _, y]) (us := [.ref _, u]) Fn hr.in1 hb tk I (.cons rfl (.cons r2 .nil)) z1) (fun v s' z => ?_) fun _ _ e => e
  obtain ⟨v', H', I', rv, b, e, qq⟩ := z
  subst e
  cases rv
  exact ⟨b, rfl, .bl (!b), H', I', rfl, qq⟩
end
end Sf
namespace Sf
open PySem L2

section
variable {X : Cx} {W : WX} {R : RX} {e a b c o : Expr} {es : List Expr} {st : Stmt} {sts rest : List Stmt} {ρ : List Sl} {P : PD} {k : Kn} {pos pos' p apos : Pos} {x m : Str} {l : Nat} {dd : List V} {s : DSp}

/-! ### C(..) -/
theorem we_make {s : ISp} (G : Kg X.prog X.w X.K X.mg X.base x l dd s) (hr : Room (l + 1) X.A) (tk : Takes X W) (h : WA X W R (e :: es) ρ fun ds ρ' => s (ds ++ dd.map Dat.v) (fun d => P d ρ') (fun x => R x ρ'))
    (hg : Gl X x := by rfl) (hdb : (x == ("__debug__" : Str)) = false := by decide) (he : starEach (e :: es) X.env = (false, eval e X.env) :: starEach es X.env := by rfl) (hpl : (backTo pos (starEach es X.env)).any (·.1) = false := by rfl) : WE X W R (.Call (.Name x p) (e :: es) [] pos) ρ P := by
  obtain ⟨f, fd, ps, dv, Fn, M, hm, hb, hd⟩ := G.ex
  refine ⟨fun pins s0 σ na F0 H0 F H Q I c n xo q => ?_⟩
  refine wpAny_Call_Name_kw (ld_glob I hg hm ?_ hdb)
  refine PySem.W.callWith_K (h₀ := X.base) I.ok.mod.kin M.kp (thn (h.run pos pins s0 σ na F0 H0 F H (fun vs H1 => ∃ ds ρ1 F1, Cur na F0 H0 F1 H1 ∧ Env1 X.K ρ1 σ na H0 F1 H1 ∧ Isl X.K ds vs F1 ∧ s (ds ++ dd.map Dat.v) (fun d => P d ρ1) (fun x => R x ρ1)) I c n xo fun ds vs ρ' F' H' c' n' hi hs => ⟨ds, ρ', F', c', n', hi, hs⟩) fun us s1 hh => ?_) he hpl
  obtain ⟨vs, H1, I1, r, ds, ρ1, F1, c1, n1, hi, hs⟩ := hh
  refine ⟨I1.kIn, ?_⟩
  -- the new object and its dict
  have hx1 : H1 (s1.heap.objs.size + 1) = none := I1.hok.fresh (Nat.le_succ _)
  have hx0 : H1 s1.heap.objs.size = none := I1.hok.fresh (Nat.le_refl _)
  have hne : s1.heap.objs.size ≠ s1.heap.objs.size + 1 := Nat.ne_of_lt (Nat.lt_succ_self _)
  have I2 := Inv.made (C := He.ga X.K x) I1
  generalize ex : s1.heap.objs.size + 1 = x0 at hx1 hne
  generalize ed : s1.heap.objs.size = dx at hx0 hne
  have HX : upd (upd H1 dx (.own x0)) x0 (.ins (He.ga X.K x) dx []) x0 = some (.ins (He.ga X.K x) dx []) := upd_same
  have st : Ex H1 (upd (upd H1 dx (.own x0)) x0 (.ins (He.ga X.K x) dx [])) := fun q0 o hq0 => by
    rw [upd_ne (ne_of_none hq0 hx1), upd_ne (ne_of_none hq0 hx0)]
    exact hq0
  have fx : F1 x0 = none := fnone c1.fh hx1
  have r2 : Vals (V.ref x0 :: (vs ++ dd)) (Value.ref x0 :: (us ++ dv)) := .cons rfl (r.append hd)
  have key : liftI X.K x s (.ref x0 :: (vs ++ dd)) (upd (upd H1 dx (.own x0)) x0 (.ins (He.ga X.K x) dx [])) (fun v H2 => v = .non ∧ Q (.ref x0) H2) (L2.WE W σ) := by
    refine ⟨x0, dx, vs ++ dd, F1, _, _, _, rfl, HX, c1.fh.trans st, fx, hi.append (isl_v dd), hs, fun ks es' ws dy F' H' c' hp hl hi' hP => ⟨rfl, ?_⟩, fun z F' H' c' hR => ?_⟩
    · have fx' : F' x0 = none := (c'.lv x0 rfl).2
      have stp : Stp F1 H1 (upd F' x0 (.ins (He.ga X.K x) dy (ks.zip ws))) H' := by
        refine ⟨fun q0 o hq0 => ?_, fun q0 o hq0 => ?_, fun q0 o hq0 => ?_, fun q0 o h1 h2 => ?_⟩
        · rw [upd_ne (ne_of_none (c'.ff _ _ hq0) fx')]
          exact c'.ff _ _ hq0
        · exact c'.hh q0 o (fun z => ne_of_none hq0 hx1 (Option.some.inj z).symm) (st _ _ hq0)
        · by_cases z : q0 = x0
          · subst z; rw [upd_same] at hq0; cases hq0; exact hp
          · rw [upd_ne z] at hq0; exact c'.fh _ _ hq0
        · rw [upd_ne (ne_of_none h1 hx1)]
          exact c'.pr q0 o (st _ _ h1) h2
      exact q _ (.ref x0) ρ1 _ H' (c1.stp stp) (n1.stp stp) (.ins upd_same hl (hi'.mono fun q0 o hq0 => by rw [upd_ne (ne_of_none hq0 fx')]; exact hq0)) hP
    · have stp : Stp F1 H1 F' H' := ⟨c'.ff, fun q0 o hq0 => c'.hh q0 o (fun z => ne_of_none hq0 hx1 (Option.some.inj z).symm) (st _ _ hq0), c'.fh, fun q0 o h1 h2 => c'.pr q0 o (st _ _ h1) h2⟩
      exact xo z ρ1 σ F' H' (c1.stp stp) (n1.stp stp) hR
  have hl : (Value.ref x0 :: us ++ dv).length = ps.length := by
    have e0 := r2.length
    rw [Fn.len _ _ _ _ key] at e0
    exact e0.symm
  subst ex
  subst ed
  refine wpAny_call (make_map (f := f) I1.kIn M.makes M.init (beq_iff_eq.mp M.fn) (codeAny_mono (Fn.run _ X.stack _ _ ⟨_ :: us, []⟩ (_ :: (us ++ dv)) _ _ (L2.WE W σ) (hr.make (He.ga X.K x) us []) (I2.env0.make (He.ga X.K x) us []) (hb _ (_ :: us) I2.kIn hl) r2 key) fun r0 s' hq' => ?_))
  cases r0 with
  | error e => exact passAt tk σ pins _ _ e s' I2 hq'
  | ok fl =>
    cases fl with
    | ret u =>
      obtain ⟨v, H', I3, rv, ev, q3⟩ := I2.after hq'
      subst ev
      exact ⟨rv, ⟨V.ref (s1.heap.objs.size + 1), H', I3, rfl, q3⟩⟩
    | next => exact False.elim hq'
    | brk => exact False.elim hq'
    | cont => exact False.elim hq'

/-- C() -/
theorem we_make0 {s : ISp} (G : Kg X.prog X.w X.K X.mg X.base x l dd s) (hr : Room (l + 1) X.A) (tk : Takes X W) (h : s (dd.map Dat.v) (fun d => P d ρ) (fun x => R x ρ)) (hg : Gl X x := by rfl) (hdb : (x == ("__debug__" : Str)) = false := by decide) : WE X W R (.Call (.Name x p) [] [] pos) ρ P := by
  obtain ⟨f, fd, ps, dv, Fn, M, hm, hb, hd⟩ := G.ex
  refine ⟨fun pins s1 σ na F0 H0 F1 H1 Q I1 c1 n1 xo q => ?_⟩
  refine wpAny_Call_Name_kw (ld_glob I1 hg hm ?_ hdb)
  refine PySem.W.callWith_K0 I1.kIn M.kp ?_
  have hs : s ([] ++ dd.map Dat.v) (fun d => P d ρ) (fun x => R x ρ) := h
  have hi : Isl X.K [] [] F1 := .nil
  have r : Vals [] [] := .nil
  rw [List.append_nil]
  generalize hus : ([] : List Value) = us at r ⊢
  generalize hvs : ([] : List V) = vs at r hi
  -- the new object and its dict
  have hx1 : H1 (s1.heap.objs.size + 1) = none := I1.hok.fresh (Nat.le_succ _)
  have hx0 : H1 s1.heap.objs.size = none := I1.hok.fresh (Nat.le_refl _)
  have hne : s1.heap.objs.size ≠ s1.heap.objs.size + 1 := Nat.ne_of_lt (Nat.lt_succ_self _)
  have I2 := Inv.made (C := He.ga X.K x) I1
  generalize ex : s1.heap.objs.size + 1 = x0 at hx1 hne
  generalize ed : s1.heap.objs.size = dx at hx0 hne
  have HX : upd (upd H1 dx (.own x0)) x0 (.ins (He.ga X.K x) dx []) x0 = some (.ins (He.ga X.K x) dx []) := upd_same
  have st : Ex H1 (upd (upd H1 dx (.own x0)) x0 (.ins (He.ga X.K x) dx [])) := fun q0 o hq0 => by
    rw [upd_ne (ne_of_none hq0 hx1), upd_ne (ne_of_none hq0 hx0)]
    exact hq0
  have fx : F1 x0 = none := fnone c1.fh hx1
  have r2 : Vals (V.ref x0 :: (vs ++ dd)) (Value.ref x0 :: (us ++ dv)) := .cons rfl (r.append hd)
  have key : liftI X.K x s (.ref x0 :: (vs ++ dd)) (upd (upd H1 dx (.own x0)) x0 (.ins (He.ga X.K x) dx [])) (fun v H2 => v = .non ∧ Q (.ref x0) H2) (L2.WE W σ) := by
    refine ⟨x0, dx, vs ++ dd, F1, _, _, _, rfl, HX, c1.fh.trans st, fx, hi.append (isl_v dd), hs, fun ks es' ws dy F' H' c' hp hl hi' hP => ⟨rfl, ?_⟩, fun z F' H' c' hR => ?_⟩
    · have fx' : F' x0 = none := (c'.lv x0 rfl).2
      have stp : Stp F1 H1 (upd F' x0 (.ins (He.ga X.K x) dy (ks.zip ws))) H' := by
        refine ⟨fun q0 o hq0 => ?_, fun q0 o hq0 => ?_, fun q0 o hq0 => ?_, fun q0 o h1 h2 => ?_⟩
        · rw [upd_ne (ne_of_none (c'.ff _ _ hq0) fx')]
          exact c'.ff _ _ hq0
        · exact c'.hh q0 o (fun z => ne_of_none hq0 hx1 (Option.some.inj z).symm) (st _ _ hq0)
        · by_cases z : q0 = x0
          · subst z; rw [upd_same] at hq0; cases hq0; exact hp
          · rw [upd_ne z] at hq0; exact c'.fh _ _ hq0
        · rw [upd_ne (ne_of_none h1 hx1)]
          exact c'.pr q0 o (st _ _ h1) h2
      exact q _ (.ref x0) ρ _ H' (c1.stp stp) (n1.stp stp) (.ins upd_same hl (hi'.mono fun q0 o hq0 => by rw [upd_ne (ne_of_none hq0 fx')]; exact hq0)) hP
    · have stp : Stp F1 H1 F' H' := ⟨c'.ff, fun q0 o hq0 => c'.hh q0 o (fun z => ne_of_none hq0 hx1 (Option.some.inj z).symm) (st _ _ hq0), c'.fh, fun q0 o h1 h2 => c'.pr q0 o (st _ _ h1) h2⟩
      exact xo z ρ σ F' H' (c1.stp stp) (n1.stp stp) hR
  have hl : (Value.ref x0 :: us ++ dv).length = ps.length := by
    have e0 := r2.length
    rw [Fn.len _ _ _ _ key] at e0
    exact e0.symm
  subst ex
  subst ed
  refine wpAny_call (make_map (f := f) I1.kIn M.makes M.init (beq_iff_eq.mp M.fn) (codeAny_mono (Fn.run _ X.stack _ _ ⟨_ :: us, []⟩ (_ :: (us ++ dv)) _ _ (L2.WE W σ) (hr.make (He.ga X.K x) us []) (I2.env0.make (He.ga X.K x) us []) (hb _ (_ :: us) I2.kIn hl) r2 key) fun r0 s' hq' => ?_))
  cases r0 with
  | error e => exact passAt tk σ pins _ _ e s' I2 hq'
  | ok fl =>
    cases fl with
    | ret u =>
      obtain ⟨v, H', I3, rv, ev, q3⟩ := I2.after hq'
      subst ev
      exact ⟨rv, ⟨V.ref (s1.heap.objs.size + 1), H', I3, rfl, q3⟩⟩
    | next => exact False.elim hq'
    | brk => exact False.elim hq'
    | cont => exact False.elim hq'



/-! ### self.f = e, while self is made -/
theorem zip_put {f : Str} {v : V} : ∀ {ks : List Str} {vs : List V}, f ∉ ks → ks.length = vs.length → putF f v (ks.zip vs) = (ks ++ [f]).zip (vs ++ [v])
  | [], [], _, _ => rfl
  | [], _ :: _, _, h => by cases h
  | _ :: _, [], _, h => by cases h
  | g :: ks, w :: vs, hn, hl => by
    have h1 : ¬ g = f := fun z => hn (z ▸ List.mem_cons_self)
    show (if g = f then (g, v) :: ks.zip vs else (g, w) :: putF f v (ks.zip vs)) = (g, w) :: (ks ++ [f]).zip (vs ++ [v])
    rw [if_neg h1, zip_put (fun z => hn (List.mem_cons_of_mem _ z)) (by simpa using hl)]
theorem ws_fld (i : Nat) {f x1 : Str} {p1 : Pos} (hN : X.N[i]? = some x1 := by rfl) (h : WE X W R e ρ fun d ρ' => ∃ C ks ds, ρ'[i]? = some (.ob C ks ds) ∧ Cls X.K (He.ga X.K C) ∧ NoAttr X.K (He.ga X.K C) f ∧ f ∉ ks ∧ ks.length < 900 ∧ k.nx (ρ'.set i (.ob C (ks ++ [f]) (ds ++ [d]))))
    (hv : Vis X.env.scope x1 := by first | exact Or.inl rfl | exact Or.inr (Or.inl rfl) | exact Or.inr (Or.inr rfl)) (hd : (x1 == ("__debug__" : Str)) = false := by decide)
    (hcd : (x1 == ("__classdict__" : Str)) = false := by decide) (hs : swapsWith e (some (.Attribute (.Name x1 p1) f pos')) pos.line X.env = pure false := by rfl) : WS X W R (.Assign [.Attribute (.Name x1 p1) f pos'] e pos) ρ k :=
  .of (ps_fld (pe_var hN hv hd hcd) (pe_U (W := W)) hs) fun σ na F0 H0 F H D c n xo q => ⟨ρ, _, R, na, F0, H0, F, h, c, n, xo, fun d v ρ' F' H' c' n' hd ⟨C, ks, ds, hi, hc, hn, hf, h9, p⟩ => by
    obtain ⟨a0, dx, vs, g1, g2, g3, g4, g5, g6⟩ := n'.ob i C ks ds hi
    refine ⟨_, g1, a0, _, dx, _, rfl, g4, hc, hn, ?_, ?_⟩
    · rw [List.length_zip, g5, Nat.min_self, ← g5]; omega
    · rw [zip_put hf g5]
      have hlen : i < ρ'.length := (List.getElem?_eq_some_iff.mp hi).1
      have other : ∀ (j : Nat) (t : Sl), (ρ'.set i (.ob C (ks ++ [f]) (ds ++ [d])))[j]? = some t → (i = j ∧ t = .ob C (ks ++ [f]) (ds ++ [d])) ∨ (i ≠ j ∧ ρ'[j]? = some t) := fun j t ht => by
        by_cases q0 : i = j
        · subst q0
          rw [List.getElem?_set_self hlen] at ht
          exact .inl ⟨rfl, (Option.some.inj ht).symm⟩
        · rw [List.getElem?_set_ne q0] at ht
          exact .inr ⟨q0, ht⟩
      have cc : Cur na F0 H0 F' (upd H' a0 (.ins (He.ga X.K C) dx ((ks ++ [f]).zip (vs ++ [v])))) := by
        refine ⟨c'.ff, fun b u nb hb => ?_, fun b u hb => ?_, c'.pr, fun b hb => ?_, c'.nz⟩
        · rw [upd_ne (fun z => nb (by rw [g2, z]))]; exact c'.hh b u nb hb
        · rw [upd_ne (ne_of_none hb g3)]; exact c'.fh b u hb
        · have : b = a0 := Option.some.inj (hb.symm.trans g2)
          subst this
          exact ⟨⟨_, upd_same⟩, g3⟩
      refine q.nx _ σ F' _ cc ⟨fun j d' h1 => ?_, fun j l' ds' h1 => ?_, fun j C' ks' ds' h1 => ?_, fun j j' l1 l2 ds1 es1 b0 h1 h2 h3 h4 => ?_, fun j j' C1 D1 ks1 ls1 ds1 es1 h1 h2 => ?_, by rw [List.length_set]; exact n'.ln⟩ p
      · rcases other j _ h1 with ⟨_, z⟩ | ⟨_, z⟩
        · cases z
        · exact n'.pu j d' z
      · rcases other j _ h1 with ⟨_, z⟩ | ⟨q0, z⟩
        · cases z
        · obtain ⟨b, ws', y1, y2, y3, y4, y5, y6⟩ := n'.ow j l' ds' z
          refine ⟨b, ws', y1, y2, ?_, y4, y5, y6⟩
          rw [upd_ne (fun z' => by subst z'; rw [g4] at y3; cases y3)]
          exact y3
      · rcases other j _ h1 with ⟨e1, z⟩ | ⟨q0, z⟩
        · subst e1
          cases z
          exact ⟨a0, dx, vs ++ [v], g1, g2, g3, upd_same, by simp [g5], g6.append (.cons hd .nil)⟩
        · obtain ⟨b, dx', ws', y1, y2, y3, y4, y5, y6⟩ := n'.ob j C' ks' ds' z
          exact absurd (n'.ao i j C C' ks ks' ds ds' hi z) q0
      · rcases other j _ h1 with ⟨e1, z1⟩ | ⟨q1, z1⟩
        · cases z1
        · rcases other j' _ h2 with ⟨e2, z2⟩ | ⟨q2, z2⟩
          · cases z2
          · exact n'.ap j j' l1 l2 ds1 es1 b0 z1 z2 h3 h4
      · have w : ∀ {j : Nat} {C1 : Str} {ks1 : List Str} {ds1 : List Dat}, (ρ'.set i (.ob C (ks ++ [f]) (ds ++ [d])))[j]? = some (.ob C1 ks1 ds1) → j = i := fun {j C1 ks1 ds1} h1 => by
          rcases other j _ h1 with ⟨e1, z1⟩ | ⟨q1, z1⟩
          · exact e1.symm
          · exact n'.ao j i C1 C ks1 ks ds1 ds z1 hi
        rw [w h1, w h2]⟩
end
end Sf
namespace Sf
open PySem L2

section
variable {X : Cx} {W : WX} {R : RX} {e a b c o : Expr} {es : List Expr} {st : Stmt} {sts rest body : List Stmt} {ρ : List Sl} {P : PD} {k : Kn} {pos pos' p apos : Pos} {x m : Str} {l : Nat} {dd : List V} {s : DSp}

/-! ### raise C('..'), try .. except C: .. -/
structure ExcF (K : PySem.W.Frag) (mg : Str → Option Value) (x : Str) : Prop where
  g : mg x = some (.ref (He.ga K x))
  ex : ∃ bm, PySem.W.excIn K (He.ga K x) bm "ValueError.__new__" = true ∧ bm = He.veBase
  kp : PySem.W.keepIn K (.ref (He.ga K x)) = true
  sub : PySem.W.subIn K (.ref (He.ga K x)) (.type "BaseException") = some true
  ty : PySem.W.typeIn K (.ref (He.ga K x)) = some (.type "type")
theorem ws_raise {z : Str} {j : Nat} {p2 : Pos} (T : ExcF X.K X.mg x) (hc : X.calm = true) (tk : Takes X W) (hr : R ⟨x, [], []⟩ ρ) (hg : Gl X x := by rfl) (hdb : (x == ("__debug__" : Str)) = false := by decide) :
    WS X W R (.Raise (some (.Call (.Name x p) [.Constant (.str z) j p2] [] pos)) none pos') ρ k := by
  obtain ⟨bm, q, rfl⟩ := T.ex
  exact .of (ps_raise hc tk (pmk_own PySem.F.excBase_ValueError q T.g T.kp (raises_own T.sub T.ty) hg hdb)) fun σ na F0 H0 F H D c n xo _ => (xo _ ρ σ F H c n hr).1 rfl
/-- the wish of a try's body -/
def rTry (X : Cx) (W : WX) (R : RX) (cl : Value) (suite : List Stmt) (k : Kn) : RX := fun z ρ => ∃ t, PySem.W.exmOne X.K (.ref (He.ga X.K z.cls)) cl = some t ∧
  (t = true → ∀ (a : Addr) (oe : Obj) (pn : List (Addr × Obj)), WSs (X.suite a ((a, oe) :: pn)) (fun _ _ _ _ => False) (fun _ _ => False) suite ρ k) ∧ (t = false → R z ρ)
theorem ws_try {cl : Value} {b₀ : Stmt} {suite : List Stmt} {np : Pos} (hs : X.stack = X.env :: X.outer) (hf : X.env.frame = some X.env.locals) (hc : Names X x cl) (tk : Takes X W)
    (hb : ∀ (W' : WX) (pn : List (Addr × Obj)) (xe : Value → Shared → Prop), Takes (X.tr pn xe) W' → PassesOwn (model X.prog X.w) X.A X.env xe → WSs (X.tr pn xe) W' (rTry X W R cl (b₀ :: suite) k) body ρ k) :
    WS X W R (.Try body [.ExceptHandler (some (.Name x np)) none (b₀ :: suite) pos'] [] [] pos) ρ k := by
  let ts : Addr → Value → Option Addr → TS := fun a cls d => fun D σ H => ∃ ρ' na F0 H0 F, (∀ (oe : Obj) (pn : List (Addr × Obj)), WSs (X.suite a ((a, oe) :: pn)) (fun _ _ _ _ => False) (fun _ _ => False) (b₀ :: suite) ρ' k) ∧ Cur na F0 H0 F H ∧ Env1 X.K ρ' σ na H0 F H ∧ KnOk X.K na F0 H0 k D
  let tb : WX → TS := fun W' D σ H => ∃ na F0 H0 F, (∀ (pn : List (Addr × Obj)) (xe : Value → Shared → Prop), Takes (X.tr pn xe) W' → PassesOwn (model X.prog X.w) X.A X.env xe → WSs (X.tr pn xe) W' (rTry X W R cl (b₀ :: suite) k) body ρ k) ∧ Cur na F0 H0 F H ∧ Env1 X.K ρ σ na H0 F H ∧ ExcOk X.K W' (rTry X W R cl (b₀ :: suite) k) na F0 H0 ∧ KnOk X.K na F0 H0 k D
  refine .of (ps_try_only (tb := tb) (ts := ts) (Wout := W) hs hf hc tk (fun W' pn xe tk' hp => ⟨fun pins s0 σ H D I h => ?_⟩) (fun a oe cls d pn _ _ => ⟨fun pins s0 σ H D I h => ?_⟩)) fun σ na F0 H0 F H D c n xo q => ?_
  · obtain ⟨na, F0, H0, F, hw, c, n, xo, q⟩ := h
    exact (hw pn xe tk' hp).run pins s0 σ na F0 H0 F H D I c n xo q
  · obtain ⟨ρ', na, F0, H0, F, hw, c, n, q⟩ := h
    exact (hw oe pn).run pins s0 σ na F0 H0 F H D I c n (fun _ _ _ _ _ _ _ z => z.elim) q
  · refine ⟨na, F0, H0, F, fun pn xe t2 hp => hb _ pn xe t2 hp, c, n, fun z ρ' σ' F' H' c' n' r => ?_, q⟩
    obtain ⟨t, h1, h2, h3⟩ := r
    refine ⟨fun e0 => ⟨t, h1, fun ht a _ => ⟨ρ', na, F0, H0, F', fun oe pn => h2 ht a oe pn, c', n', q⟩, fun ht => (xo z ρ' σ' F' H' c' n' (h3 ht)).1 e0⟩, fun d vs e0 e1 e2 e3 => ⟨t, h1, fun ht a _ => ⟨ρ', na, F0, H0, F', fun oe pn => h2 ht a oe pn, c', n', q⟩, fun ht => (xo z ρ' σ' F' H' c' n' (h3 ht)).2 d vs e0 e1 e2 e3⟩⟩

/-! ### what a loop walks: items that stand still -/
structure ItD (K : PySem.W.Frag) (J : It) (ds : List Dat) (F : Hp) : Prop where
  stop : ∀ H, Ex F H → J.stop ds.length H
  go : ∀ i H, i < ds.length → Ex F H → J.go i H
  yld : ∀ i d F' H x H', ds[i]? = some d → Ex F F' → Ex F' H → J.yld i H x H' → ∃ F'', Stp F' H F'' H' ∧ Is K d x F''
theorem itd_list {K : PySem.W.Frag} {F : Hp} {a : Addr} {ds : List Dat} {vs : List V} (h : SqL K F a vs) (hs : Isl K ds vs F) : ItD K (Itl K a) ds F :=
  ⟨fun H e => ⟨vs, e.sql h, by rw [hs.length]; exact Nat.le_refl _⟩, fun i H hi e => ⟨vs, vs[i]'(by rw [← hs.length]; exact hi), e.sql h, List.getElem?_eq_getElem _⟩, fun i d F' H x H' hd e1 e2 ⟨e3, y⟩ => by
    subst e3
    obtain ⟨v, h1, h2⟩ := hs.get hd
    have h3 := y vs ((e1.trans e2).sql h)
    rw [h1] at h3
    cases h3
    exact ⟨F', .refl e2, h2.mono e1⟩⟩
theorem itd_tup {K : PySem.W.Frag} {F : Hp} {a : Addr} {ds : List Dat} {vs : List V} (h : SqT K F a vs) (hs : Isl K ds vs F) : ItD K (Itt K a) ds F :=
  ⟨fun H e => ⟨vs, e.sqt h, by rw [hs.length]; exact Nat.le_refl _⟩, fun i H hi e => ⟨vs, vs[i]'(by rw [← hs.length]; exact hi), e.sqt h, List.getElem?_eq_getElem _⟩, fun i d F' H x H' hd e1 e2 ⟨e3, y⟩ => by
    subst e3
    obtain ⟨v, h1, h2⟩ := hs.get hd
    have h3 := y vs ((e1.trans e2).sqt h)
    rw [h1] at h3
    cases h3
    exact ⟨F', .refl e2, h2.mono e1⟩⟩
/-- lo, lo + c, .. (n of them) -/
def rgD (lo c : Int) (n : Nat) : List Dat := (List.range n).map fun t : Nat => dI (lo + (t : Int) * c)
theorem rgD_length (lo c : Int) (n : Nat) : (rgD lo c n).length = n := by unfold rgD; rw [List.length_map, List.length_range]
theorem rgD_get {lo c : Int} {n i : Nat} {d : Dat} (h : (rgD lo c n)[i]? = some d) : d = dI (lo + (i : Int) * c) ∧ i < n := by
  have hl : i < n := by have := (List.getElem?_eq_some_iff.mp h).1; rwa [rgD_length] at this
  unfold rgD at h
  rw [List.getElem?_map, List.getElem?_range hl] at h
  exact ⟨(Option.some.inj h).symm, hl⟩
theorem itd_rng {K : PySem.W.Frag} {F : Hp} {lo : Int} {n : Nat} : ItD K (Itr lo n) (rgD lo 1 n) F :=
  ⟨fun H e => by show n ≤ _; rw [rgD_length]; exact Nat.le_refl _, fun i H hi e => by rw [rgD_length] at hi; exact hi, fun i d F' H x H' hd e1 e2 ⟨e3, y⟩ => by
    subst e3
    subst y
    obtain ⟨h1, _⟩ := rgD_get hd
    subst h1
    rw [Int.mul_one]
    exact ⟨F', .refl e2, .v⟩⟩
theorem itd_rngC {K : PySem.W.Frag} {F : Hp} {lo c : Int} {n : Nat} : ItD K (Itc lo c n) (rgD lo c n) F :=
  ⟨fun H e => by show n ≤ _; rw [rgD_length]; exact Nat.le_refl _, fun i H hi e => by rw [rgD_length] at hi; exact hi, fun i d F' H x H' hd e1 e2 ⟨e3, y⟩ => by
    subst e3
    subst y
    obtain ⟨h1, _⟩ := rgD_get hd
    subst h1
    exact ⟨F', .refl e2, .v⟩⟩
/-- 0, a; 1, b; .. -/
def enD : Nat → List Dat → List Dat
  | _, [] => []
  | i, d :: ds => .tup [dI i, d] :: enD (i + 1) ds
theorem enD_length : ∀ (i : Nat) (ds : List Dat), (enD i ds).length = ds.length
  | _, [] => rfl
  | i, d :: ds => by unfold enD; rw [List.length_cons, List.length_cons, enD_length (i + 1) ds]
theorem enD_get : ∀ {i j : Nat} {ds : List Dat} {d : Dat}, (enD i ds)[j]? = some d → ∃ e, ds[j]? = some e ∧ d = .tup [dI ((i + j : Nat) : Int), e]
  | _, _, [], _, h => by unfold enD at h; simp at h
  | i, 0, e :: ds, d, h => by unfold enD at h; simp at h; exact ⟨e, by simp, by simpa using h.symm⟩
  | i, j + 1, e :: ds, d, h => by
    unfold enD at h
    rw [List.getElem?_cons_succ] at h
    obtain ⟨e', h1, h2⟩ := enD_get h
    exact ⟨e', by simpa using h1, by rw [h2]; congr 4; omega⟩
theorem itd_enum {K : PySem.W.Frag} {F : Hp} {a : Addr} {ds : List Dat} {vs : List V} (h : SqL K F a vs) (hs : Isl K ds vs F) : ItD K (Ite K a) (enD 0 ds) F :=
  ⟨fun H e => ⟨vs, e.sql h, by rw [enD_length, hs.length]; exact Nat.le_refl _⟩, fun i H hi e => ⟨vs, vs[i]'(by rw [← hs.length, ← enD_length 0]; exact hi), e.sql h, List.getElem?_eq_getElem _⟩, fun i d F' H x H' hd e1 e2 ⟨T, x1, e3, e4, e5, y⟩ => by
    subst e3
    subst e5
    obtain ⟨e, h1, h2⟩ := enD_get hd
    obtain ⟨v, h3, h4⟩ := hs.get h1
    have h5 := y vs ((e1.trans e2).sql h)
    rw [h3] at h5
    cases h5
    have st := Stp.new (o := .tup [.int (i : Nat), x1]) e2 e4
    refine ⟨_, st, ?_⟩
    rw [h2, Nat.zero_add]
    exact .tup (.inl (.inl upd_same)) (.cons .v (.cons ((h4.mono e1).mono st.ff) .nil))⟩
def zpD (ds es : List Dat) : List Dat := (ds.zip es).map fun p => .tup [p.1, p.2]
theorem zpD_length (ds es : List Dat) : (zpD ds es).length = min ds.length es.length := by unfold zpD; rw [List.length_map, List.length_zip]
theorem zpD_get {ds es : List Dat} {i : Nat} {d : Dat} (h : (zpD ds es)[i]? = some d) : ∃ a b, ds[i]? = some a ∧ es[i]? = some b ∧ d = .tup [a, b] := by
  unfold zpD at h
  rw [List.getElem?_map] at h
  cases q : (ds.zip es)[i]? with
  | none => rw [q] at h; cases h
  | some p =>
    rw [q] at h
    obtain ⟨h1, h2⟩ := List.getElem?_zip_eq_some.mp q
    exact ⟨p.1, p.2, h1, h2, (Option.some.inj h).symm⟩
theorem itd_zip {K : PySem.W.Frag} {F : Hp} {a b : Addr} {ds es : List Dat} {vs us : List V} (h : SqL K F a vs) (hs : Isl K ds vs F) (g : SqL K F b us) (gs : Isl K es us F) : ItD K (Itz K a b) (zpD ds es) F :=
  ⟨fun H e => ⟨vs, us, e.sql h, e.sql g, by rw [zpD_length, ← hs.length, ← gs.length]; omega⟩, fun i H hi e => by
    rw [zpD_length, hs.length, gs.length] at hi
    exact ⟨vs, us, vs[i]'(by omega), us[i]'(by omega), e.sql h, e.sql g, List.getElem?_eq_getElem _, List.getElem?_eq_getElem _⟩, fun i d F' H x H' hd e1 e2 ⟨T, x1, y1, e3, e4, e5, y, z⟩ => by
    subst e3
    subst e5
    obtain ⟨p, q, h1, h2, h3⟩ := zpD_get hd
    obtain ⟨v, h4, h5⟩ := hs.get h1
    obtain ⟨u, h6, h7⟩ := gs.get h2
    have k1 := y vs ((e1.trans e2).sql h)
    have k2 := z us ((e1.trans e2).sql g)
    rw [h4] at k1
    rw [h6] at k2
    cases k1
    cases k2
    have st := Stp.new (o := .tup [x1, y1]) e2 e4
    refine ⟨_, st, ?_⟩
    rw [h3]
    exact .tup (.inl (.inl upd_same)) (.cons ((h5.mono e1).mono st.ff) (.cons ((h7.mono e1).mono st.ff) .nil))⟩
theorem itd_zipT {K : PySem.W.Frag} {F : Hp} {a b : Addr} {ds es : List Dat} {vs us : List V} (h : SqT K F a vs) (hs : Isl K ds vs F) (g : SqT K F b us) (gs : Isl K es us F) : ItD K (RZ.ItzT K a b) (zpD ds es) F :=
  ⟨fun H e => ⟨vs, us, e.sqt h, e.sqt g, by rw [zpD_length, ← hs.length, ← gs.length]; omega⟩, fun i H hi e => by
    rw [zpD_length, hs.length, gs.length] at hi
    exact ⟨vs, us, vs[i]'(by omega), us[i]'(by omega), e.sqt h, e.sqt g, List.getElem?_eq_getElem _, List.getElem?_eq_getElem _⟩, fun i d F' H x H' hd e1 e2 ⟨T, x1, y1, e3, e4, e5, y, z⟩ => by
    subst e3
    subst e5
    obtain ⟨p, q, h1, h2, h3⟩ := zpD_get hd
    obtain ⟨v, h4, h5⟩ := hs.get h1
    obtain ⟨u, h6, h7⟩ := gs.get h2
    have k1 := y vs ((e1.trans e2).sqt h)
    have k2 := z us ((e1.trans e2).sqt g)
    rw [h4] at k1
    rw [h6] at k2
    cases k1
    cases k2
    have st := Stp.new (o := .tup [x1, y1]) e2 e4
    refine ⟨_, st, ?_⟩
    rw [h3]
    exact .tup (.inl (.inl upd_same)) (.cons ((h5.mono e1).mono st.ff) (.cons ((h7.mono e1).mono st.ff) .nil))⟩
/-- what it is that a loop walks -/
structure WI (X : Cx) (W : WX) (R : RX) (tg it : Expr) (ρ : List Sl) (P : List Dat → List Sl → Prop) : Prop where
  run : ∀ (pins : List (Addr × Obj)) (s : Shared) (σ : L2.St) (na : Option Addr) (F0 H0 F H : Hp) (Q : It → Hp → Prop), Inv X pins σ H s → Cur na F0 H0 F H → Env1 X.K ρ σ na H0 F H → ExcOk X.K W R na F0 H0 →
    (∀ J ds ρ' F' H', Cur na F0 H0 F' H' → Env1 X.K ρ' σ na H0 F' H' → ItD X.K J ds F' → P ds ρ' → Q J H') → wpAny (model X.prog X.w) X.A (eval it X.env) (fun v s1 => wpAny (model X.prog X.w) X.A (pyIter v) (PIE X pins σ tg Q) X.xe s1) X.xe s
def tUI (X : Cx) (W : WX) (tg it : Expr) : TI := fun σ H Q => ∃ ρ P R na F0 H0 F, WI X W R tg it ρ P ∧ Cur na F0 H0 F H ∧ Env1 X.K ρ σ na H0 F H ∧ ExcOk X.K W R na F0 H0 ∧
  ∀ J ds ρ' F' H', Cur na F0 H0 F' H' → Env1 X.K ρ' σ na H0 F' H' → ItD X.K J ds F' → P ds ρ' → Q J H'
theorem pi_U {tg it : Expr} : PI X tg it (tUI X W tg it) := ⟨fun pins s σ H Q I ⟨ρ, P, R, na, F0, H0, F, w, c, n, x, q⟩ => w.run pins s σ na F0 H0 F H Q I c n x q⟩
theorem WI.of {tg it : Expr} {P : List Dat → List Sl → Prop} {t : TI} (h : PI X tg it t) (ht : ∀ σ na F0 H0 F H (Q : It → Hp → Prop), Cur na F0 H0 F H → Env1 X.K ρ σ na H0 F H → ExcOk X.K W R na F0 H0 →
    (∀ J ds ρ' F' H', Cur na F0 H0 F' H' → Env1 X.K ρ' σ na H0 F' H' → ItD X.K J ds F' → P ds ρ' → Q J H') → t σ H Q) : WI X W R tg it ρ P :=
  ⟨fun pins s σ na F0 H0 F H Q I c n x q => h.run pins s σ H Q I (ht σ na F0 H0 F H Q c n x q)⟩

/-! ### loops -/
theorem ws_while (hp : PassesOwn (model X.prog X.w) X.A X.env X.xe) (Iv : Nat → List Sl → Prop) (h0 : ∃ m, Iv m ρ)
    (hs : ∀ m ρ', Iv m ρ' → WT X W R c ρ' fun t ρ'' => (t = true → WSs X W R body ρ'' { k with nx := fun ρ3 => ∃ m', m' < m ∧ Iv m' ρ3, ct := fun ρ3 => ∃ m', m' < m ∧ Iv m' ρ3, bk := k.nx }) ∧ (t = false → k.nx ρ'')) : WS X W R (.While c body [] pos) ρ k :=
  .of (ps_while hp (pt_U (W := W)) (pss_U (W := W))) fun σ na F0 H0 F H D cu n xo q => by
    refine ⟨fun m σ' H' => ∃ ρ' F', Cur na F0 H0 F' H' ∧ Env1 X.K ρ' σ' na H0 F' H' ∧ Iv m ρ', ?_, fun m σ' H' hw => ?_⟩
    · obtain ⟨m, hm⟩ := h0
      exact ⟨m, ρ, F, cu, n, hm⟩
    · obtain ⟨ρ', F', c', n', hi⟩ := hw
      refine ⟨ρ', _, R, na, F0, H0, F', hs m ρ' hi, c', n', xo, fun t ρ'' F2 H2 c2 n2 p => ?_⟩
      cases t with
      | true =>
        refine iteT ⟨fun σ3 H3 => ∃ ρ3 F3, Cur na F0 H0 F3 H3 ∧ Env1 X.K ρ3 σ3 na H0 F3 H3 ∧ ∃ m', m' < m ∧ Iv m' ρ3, fun σ3 H3 ⟨ρ3, F3, c3, n3, m', hm, h3⟩ => ⟨m', hm, ρ3, F3, c3, n3, h3⟩, ?_⟩
        exact ⟨ρ'', _, R, na, F0, H0, F2, p.1 rfl, c2, n2, xo, ⟨fun ρ3 σ3 F3 H3 c3 n3 h => ⟨ρ3, F3, c3, n3, h⟩, q.rt, fun ρ3 σ3 F3 H3 c3 n3 h => q.nx ρ3 σ3 F3 H3 c3 n3 h, fun ρ3 σ3 F3 H3 c3 n3 h => ⟨ρ3, F3, c3, n3, h⟩⟩⟩
      | false => exact iteF (q.nx _ _ _ _ c2 n2 (p.2 rfl))
/-- how a target takes an item -/
structure TgD (K : PySem.W.Frag) (g : TG) (d : Dat) (ρ : List Sl) (Q : List Sl → Prop) : Prop where
  run : ∀ (σ : L2.St) (na : Option Addr) (F0 H0 F H : Hp) (v : V) (D : L2.St → Hp → Prop), Cur na F0 H0 F H → Env1 K ρ σ na H0 F H → Is K d v F → (∀ ρ' σ' , Env1 K ρ' σ' na H0 F H → Q ρ' → D σ' H) → g v σ H D
theorem tg_name {K : PySem.W.Frag} (i : Nat) {d : Dat} {Q : List Sl → Prop} (h : Q (ρ.set i (.pu d))) : TgD K (gName i) d ρ Q := ⟨fun σ na F0 H0 F H v D c n hd q => q _ _ (n.set hd) h⟩
/-- a, b, c: a tuple of as many items -/
def setNs : List Nat → List Dat → List Sl → List Sl
  | i :: is, d :: ds, ρ => setNs is ds (ρ.set i (.pu d))
  | _, _, ρ => ρ
def gNs : List Nat → TGs
  | [] => gNil
  | i :: is => gCons (gName i) (gNs is)
theorem gns_run {K : PySem.W.Frag} {na : Option Addr} {F0 H0 F H : Hp} {D : L2.St → Hp → Prop} : ∀ {is : List Nat} {ds : List Dat} {ρ : List Sl} {vs : List V} {σ : L2.St}, is.length = ds.length → Cur na F0 H0 F H → Env1 K ρ σ na H0 F H → Isl K ds vs F → (∀ σ', Env1 K (setNs is ds ρ) σ' na H0 F H → D σ' H) → gNs is vs σ H D
  | [], [], ρ, vs, σ, _, c, n, hd, q => by cases hd; exact ⟨rfl, q _ n⟩
  | [], _ :: _, _, _, _, h, _, _, _, _ => by cases h
  | _ :: _, [], _, _, _, h, _, _, _, _ => by cases h
  | i :: is, d :: ds, ρ, vs, σ, h, c, n, hd, q => by
    cases hd with
    | cons h1 h2 => exact ⟨_, _, rfl, gns_run (by simpa using h) c (n.set h1) h2 q⟩
theorem tg_tup {K : PySem.W.Frag} {is : List Nat} {ds : List Dat} {Q : List Sl → Prop} {N : Nat} (hl : ds.length = N) (hi : is.length = ds.length) (h : Q (setNs is ds ρ)) : TgD K (gTup K N (gNs is)) (.tup ds) ρ Q :=
  ⟨fun σ na F0 H0 F H v D c n hd q => by
    cases hd with
    | tup ha hs => exact ⟨_, _, rfl, c.fh.sqt ha, by rw [← hs.length, hl], gns_run hi c n hs fun σ' n' => q _ σ' n' h⟩⟩
theorem ws_for {tg : Expr} {g : TG} {it : Expr} (hp : PassesOwn (model X.prog X.w) X.A X.env X.xe) (hc : X.calm = true) (hg : PG X tg g)
    (h : WI X W R tg it ρ fun ds ρ0 => ∃ (Iv : Nat → List Sl → Prop), Iv 0 ρ0 ∧
      (∀ (j : Nat) d' ρ', ds[j]? = some d' → Iv j ρ' → TgD X.K g d' ρ' fun ρ2 => WSs X W R body ρ2 { k with nx := Iv (j + 1), ct := Iv (j + 1), bk := k.nx }) ∧ ∀ ρ', Iv ds.length ρ' → k.nx ρ')
    (hst : ∀ x, foldedSetIterable it X.env x = pure x := by intro _; rfl) :
    WS X W R (.For tg it body [] pos) ρ k :=
  .of (ps_for hp hc (pi_U (W := W)) hg (pss_U (W := W)) hst) fun σ na F0 H0 F H D cu n xo q => ⟨ρ, _, R, na, F0, H0, F, h, cu, n, xo, fun J ds ρ0 F1 H1 c1 n1 hJ hh => by
    obtain ⟨Iv, i0, ih, ie⟩ := hh
    refine ⟨fun j m σ' H' => m = ds.length - j ∧ j ≤ ds.length ∧ ∃ ρ' F', Cur na F1 H0 F' H' ∧ Env1 X.K ρ' σ' na H0 F' H' ∧ Iv j ρ', ⟨ds.length, by simp, Nat.zero_le _, ρ0, F1, c1.re, n1, i0⟩, ?_⟩
    rintro j m σ' H' ⟨rfl, hj, ρ', F', c', n', hi⟩
    by_cases hlt : j < ds.length
    · refine .inr ⟨hJ.go j H' hlt (c'.ff.trans c'.fh), fun σ2 H2 => ∃ ρ' F', Cur na F1 H0 F' H2 ∧ Env1 X.K ρ' σ2 na H0 F' H2 ∧ Iv (j + 1) ρ', fun σ2 H2 ⟨ρ2, F2, c2, n2, i2⟩ => ⟨_, by omega, rfl, hlt, ρ2, F2, c2, n2, i2⟩, fun x H2 hy => ?_⟩
      have hd : ds[j]? = some ds[j] := List.getElem?_eq_getElem hlt
      obtain ⟨F2, st, hx⟩ := hJ.yld j _ F' H' x H2 hd c'.ff c'.fh hy
      have c2 := c'.stp st
      have n2 := n'.stp st
      refine (ih j _ ρ' hd hi).run σ' na F1 H0 F2 H2 x _ c2 n2 hx fun ρ3 σ3 n3 hw => ?_
      exact ⟨ρ3, _, R, na, F1, H0, F2, hw, c2, n3, xo.re c1, ⟨fun ρ4 σ4 F4 H4 c4 n4 h => ⟨ρ4, F4, c4, n4, h⟩, fun r v ρ4 σ4 F4 H4 c4 n4 hd h => q.rt r v ρ4 σ4 F4 H4 (c1.back c4) n4 hd h, fun ρ4 σ4 F4 H4 c4 n4 h => q.nx ρ4 σ4 F4 H4 (c1.back c4) n4 h, fun ρ4 σ4 F4 H4 c4 n4 h => ⟨ρ4, F4, c4, n4, h⟩⟩⟩
    · have e : j = ds.length := by omega
      subst e
      exact .inl ⟨hJ.stop H' (c'.ff.trans c'.fh), q.nx ρ' σ' F' H' (c1.back c') n' (ie ρ' hi)⟩⟩

/-! ### lists that are the def's own -/
theorem Env1.setN {K : PySem.W.Frag} {σ : L2.St} {na : Option Addr} {H0 F H : Hp} {i : Nat} {p : Addr} {ds : List Dat} {vs : List V} (e : Env1 K ρ σ na H0 F H) (ex : Ex F H) (hh : ∀ a o, na ≠ some a → H0 a = some o → H a = some o) (hna : ∀ a, na = some a → H a ≠ none) (hp : H p = none) (hd : Isl K ds vs F) : Env1 K (ρ.set i (.ow false ds)) (σ.set i (some (.ref p))) na H0 F (upd H p (.lst vs)) := by
  have other : ∀ {j : Nat} {t : Sl}, (ρ.set i (.ow false ds))[j]? = some t → (i = j ∧ i < ρ.length ∧ t = .ow false ds) ∨ (i ≠ j ∧ ρ[j]? = some t) := fun {j t} h1 => by
    by_cases q : i = j
    · subst q
      by_cases hl : i < ρ.length
      · rw [List.getElem?_set_self hl] at h1
        exact .inl ⟨rfl, hl, (Option.some.inj h1).symm⟩
      · have : (ρ.set i (.ow false ds)).length ≤ i := by rw [List.length_set]; omega
        rw [List.getElem?_eq_none this] at h1
        cases h1
    · rw [List.getElem?_set_ne q] at h1
      exact .inr ⟨q, h1⟩
  have h0 : H0 p = none := by
    cases q : H0 p with
    | none => rfl
    | some u =>
      by_cases z : na = some p
      · exact absurd hp (hna p z)
      · rw [hh p u z q] at hp; cases hp
  refine ⟨fun j d' h1 => ?_, fun j l' ds' h1 => ?_, fun j C' ks' ds' h1 => ?_, fun j j' l1 l2 ds1 es1 b0 h1 h2 h3 h4 => ?_, fun j j' C1 D1 ks1 ls1 ds1 es1 h1 h2 => ?_, by rw [List.length_set, List.length_set]; exact e.ln⟩
  · rcases other h1 with ⟨_, _, z⟩ | ⟨q, z⟩
    · cases z
    · rw [List.getElem?_set_ne q]; exact e.pu j d' z
  · rcases other h1 with ⟨rfl, hl, z⟩ | ⟨q, z⟩
    · cases z
      exact ⟨p, vs, List.getElem?_set_self (by rw [← e.ln]; exact hl), fnone ex hp, upd_same, hd, fun z => (nomatch z), fun _ => h0⟩
    · obtain ⟨b, ws, y1, y2, y3, y4, y5⟩ := e.ow j l' ds' z
      rw [List.getElem?_set_ne q]
      exact ⟨b, ws, y1, y2, by rw [upd_ne (ne_of_none y3 hp)]; exact y3, y4, y5⟩
  · rcases other h1 with ⟨_, _, z⟩ | ⟨q, z⟩
    · cases z
    · obtain ⟨b, dx, ws, y1, y2, y3, y4, y5⟩ := e.ob j C' ks' ds' z
      rw [List.getElem?_set_ne q]
      exact ⟨b, dx, ws, y1, y2, y3, by rw [upd_ne (ne_of_none y4 hp)]; exact y4, y5⟩
  · have no : ∀ {j l1 ds1 b0}, i ≠ j → ρ[j]? = some (Sl.ow l1 ds1) → σ[j]? = some (some (V.ref b0)) → b0 ≠ p := fun {j l1 ds1 b0} _ z y z' => by
      obtain ⟨b, ws, y1, y2, y3, y4, y5⟩ := e.ow j l1 ds1 z
      rw [y] at y1; cases y1
      rw [z', hp] at y3; cases y3
    rcases other h1 with ⟨rfl, hl, z1⟩ | ⟨q1, z1⟩
    · rw [List.getElem?_set_self (by rw [← e.ln]; exact hl)] at h3
      cases h3
      rcases other h2 with ⟨rfl, _, z2⟩ | ⟨q2, z2⟩
      · rfl
      · rw [List.getElem?_set_ne q2] at h4
        exact absurd rfl (no q2 z2 h4)
    · rw [List.getElem?_set_ne q1] at h3
      rcases other h2 with ⟨rfl, hl, z2⟩ | ⟨q2, z2⟩
      · rw [List.getElem?_set_self (by rw [← e.ln]; exact hl)] at h4
        cases h4
        exact absurd rfl (no q1 z1 h3)
      · rw [List.getElem?_set_ne q2] at h4
        exact e.ap j j' l1 l2 ds1 es1 b0 z1 z2 h3 h4
  · rcases other h1 with ⟨_, _, z⟩ | ⟨q1, z1⟩
    · cases z
    · rcases other h2 with ⟨_, _, z⟩ | ⟨q2, z2⟩
      · cases z
      · exact e.ao j j' C1 D1 ks1 ls1 ds1 es1 z1 z2
/-- a list that is there already, and nobody else's -/
theorem Env1.setO {K : PySem.W.Frag} {σ : L2.St} {na : Option Addr} {H0 F H : Hp} {i : Nat} {p : Addr} {ds : List Dat} {vs : List V} (e : Env1 K ρ σ na H0 F H) (hf : F p = none) (hp : H p = some (.lst vs)) (hd : Isl K ds vs F) (h0 : H0 p = none)
    (hno : ∀ (j : Nat) l' ds' b, ρ[j]? = some (Sl.ow l' ds') → σ[j]? = some (some (V.ref b)) → b ≠ p) : Env1 K (ρ.set i (.ow false ds)) (σ.set i (some (.ref p))) na H0 F H := by
  have other : ∀ {j : Nat} {t : Sl}, (ρ.set i (.ow false ds))[j]? = some t → (i = j ∧ i < ρ.length ∧ t = .ow false ds) ∨ (i ≠ j ∧ ρ[j]? = some t) := fun {j t} h1 => by
    by_cases q : i = j
    · subst q
      by_cases hl : i < ρ.length
      · rw [List.getElem?_set_self hl] at h1
        exact .inl ⟨rfl, hl, (Option.some.inj h1).symm⟩
      · have : (ρ.set i (.ow false ds)).length ≤ i := by rw [List.length_set]; omega
        rw [List.getElem?_eq_none this] at h1
        cases h1
    · rw [List.getElem?_set_ne q] at h1
      exact .inr ⟨q, h1⟩
  refine ⟨fun j d' h1 => ?_, fun j l' ds' h1 => ?_, fun j C' ks' ds' h1 => ?_, fun j j' l1 l2 ds1 es1 b0 h1 h2 h3 h4 => ?_, fun j j' C1 D1 ks1 ls1 ds1 es1 h1 h2 => ?_, by rw [List.length_set, List.length_set]; exact e.ln⟩
  · rcases other h1 with ⟨_, _, z⟩ | ⟨q, z⟩
    · cases z
    · rw [List.getElem?_set_ne q]; exact e.pu j d' z
  · rcases other h1 with ⟨rfl, hl, z⟩ | ⟨q, z⟩
    · cases z
      exact ⟨p, vs, List.getElem?_set_self (by rw [← e.ln]; exact hl), hf, hp, hd, fun z => (nomatch z), fun _ => h0⟩
    · rw [List.getElem?_set_ne q]
      exact e.ow j l' ds' z
  · rcases other h1 with ⟨_, _, z⟩ | ⟨q, z⟩
    · cases z
    · rw [List.getElem?_set_ne q]
      exact e.ob j C' ks' ds' z
  · rcases other h1 with ⟨rfl, hl, z1⟩ | ⟨q1, z1⟩
    · rw [List.getElem?_set_self (by rw [← e.ln]; exact hl)] at h3
      cases h3
      rcases other h2 with ⟨rfl, _, z2⟩ | ⟨q2, z2⟩
      · rfl
      · rw [List.getElem?_set_ne q2] at h4
        exact absurd rfl (hno _ _ _ _ z2 h4)
    · rw [List.getElem?_set_ne q1] at h3
      rcases other h2 with ⟨rfl, hl, z2⟩ | ⟨q2, z2⟩
      · rw [List.getElem?_set_self (by rw [← e.ln]; exact hl)] at h4
        cases h4
        exact absurd rfl (hno _ _ _ _ z1 h3)
      · rw [List.getElem?_set_ne q2] at h4
        exact e.ap j j' l1 l2 ds1 es1 b0 z1 z2 h3 h4
  · rcases other h1 with ⟨_, _, z⟩ | ⟨q1, z1⟩
    · cases z
    · rcases other h2 with ⟨_, _, z⟩ | ⟨q2, z2⟩
      · cases z
      · exact e.ao j j' C1 D1 ks1 ls1 ds1 es1 z1 z2
/-- x = [a, b, ..]: a list of the def's own -/
theorem ws_setL (i : Nat) {y : Str} {lp : Pos} (hN : X.N.Nodup) (h : WA X W R es ρ fun ds ρ' => ds.length ≤ 100000 ∧ k.nx (ρ'.set i (.ow false ds))) (hi : X.N[i]? = some y := by rfl) (hx : Loc X.env.scope y := by first | exact Or.inl rfl | exact Or.inr rfl)
    (hs : swapsWith (.List es lp) (some (.Name y pos')) pos.line X.env = pure false := by rfl) (hf : X.fn y = true ∨ X.env.scope.names.lookup y = some .local := by first | exact .inl rfl | exact .inr rfl | assumption) : WS X W R (.Assign [.Name y pos'] (.List es lp) pos) ρ k :=
  .of (ps_set hN hi hx (pe_lst (pa_U (W := W))) hs hf) fun σ na F0 H0 F H D c n xo q => ⟨ρ, _, R, na, F0, H0, F, h, c, n, xo, fun ds vs ρ' F' H' c' n' hd ⟨hl, p⟩ =>
    ⟨by rw [← hd.length]; exact Nat.le_trans hl (by decide), fun a ha => by
      refine q.nx _ _ F' _ ⟨c'.ff, fun b u nb hb => ?_, fun b u hb => ?_, c'.pr, fun b hb => ?_, c'.nz⟩ (n'.setN c'.fh c'.hh (fun b hb => by obtain ⟨⟨u, hu⟩, _⟩ := c'.lv b hb; rw [hu]; exact fun z => nomatch z) ha hd) p
      · rw [upd_ne (ne_of_none (c'.hh b u nb hb) ha)]; exact c'.hh b u nb hb
      · rw [upd_ne (ne_of_none (c'.fh b u hb) ha)]; exact c'.fh b u hb
      · obtain ⟨⟨u, hu⟩, hf'⟩ := c'.lv b hb
        exact ⟨⟨u, by rw [upd_ne (ne_of_none hu ha)]; exact hu⟩, hf'⟩⟩⟩
/-- the list of slot i is changed -/
theorem Env1.upL {K : PySem.W.Frag} {σ : L2.St} {na : Option Addr} {H0 F H : Hp} {i : Nat} {lb : Bool} {ds es : List Dat} {a0 : Addr} {us vs : List V} (e : Env1 K ρ σ na H0 F H) (hi : ρ[i]? = some (.ow lb ds)) (hs : σ[i]? = some (some (.ref a0))) (hf : F a0 = none) (hH : H a0 = some (.lst us)) (g5 : lb = true → na = some a0) (g6 : lb = false → H0 a0 = none) (hd : Isl K es vs F) :
    Env1 K (ρ.set i (.ow lb es)) σ na H0 F (upd H a0 (.lst vs)) := by
  have hlen : i < ρ.length := (List.getElem?_eq_some_iff.mp hi).1
  have other : ∀ {j : Nat} {t : Sl}, (ρ.set i (.ow lb es))[j]? = some t → (i = j ∧ t = .ow lb es) ∨ (i ≠ j ∧ ρ[j]? = some t) := fun {j t} ht => by
    by_cases q0 : i = j
    · subst q0
      rw [List.getElem?_set_self hlen] at ht
      exact .inl ⟨rfl, (Option.some.inj ht).symm⟩
    · rw [List.getElem?_set_ne q0] at ht
      exact .inr ⟨q0, ht⟩
  refine ⟨fun j d' h1 => ?_, fun j l' ds' h1 => ?_, fun j C ks ds' h1 => ?_, fun j j' l1 l2 ds1 es1 b h1 h2 h3 h4 => ?_, fun j j' C D ks ls ds1 es1 h1 h2 => ?_, by rw [List.length_set]; exact e.ln⟩
  · rcases other h1 with ⟨_, z⟩ | ⟨_, z⟩
    · cases z
    · exact e.pu j d' z
  · rcases other h1 with ⟨e1, z⟩ | ⟨q0, z⟩
    · subst e1
      cases z
      exact ⟨a0, vs, hs, hf, upd_same, hd, g5, g6⟩
    · obtain ⟨b, ws', y1, y2, y3, y4, y5⟩ := e.ow j l' ds' z
      have nb : b ≠ a0 := fun z' => by
        subst z'
        exact q0 (e.ap i j lb l' ds ds' b hi z hs y1)
      exact ⟨b, ws', y1, y2, by rw [upd_ne nb]; exact y3, y4, y5⟩
  · rcases other h1 with ⟨_, z⟩ | ⟨q0, z⟩
    · cases z
    · obtain ⟨b, dx, ws', y1, y2, y3, y4, y5, y6⟩ := e.ob j C ks ds' z
      have nb : b ≠ a0 := fun z' => by subst z'; rw [hH] at y4; cases y4
      exact ⟨b, dx, ws', y1, y2, y3, by rw [upd_ne nb]; exact y4, y5, y6⟩
  · rcases other h1 with ⟨e1, z1⟩ | ⟨q1, z1⟩
    · rcases other h2 with ⟨e2, z2⟩ | ⟨q2, z2⟩
      · exact e1.symm.trans e2
      · subst e1
        rw [hs] at h3
        cases h3
        exact e.ap i j' lb l2 ds es1 a0 hi z2 hs h4
    · rcases other h2 with ⟨e2, z2⟩ | ⟨q2, z2⟩
      · subst e2
        rw [hs] at h4
        cases h4
        exact e.ap j i l1 lb ds1 ds a0 z1 hi h3 hs
      · exact e.ap j j' l1 l2 ds1 es1 b z1 z2 h3 h4
  · rcases other h1 with ⟨_, z1⟩ | ⟨_, z1⟩
    · cases z1
    · rcases other h2 with ⟨_, z2⟩ | ⟨_, z2⟩
      · cases z2
      · exact e.ao j j' C D ks ls ds1 es1 z1 z2
theorem Cur.upL {na : Option Addr} {F0 H0 F H : Hp} {a0 : Addr} {lb : Bool} {u : HO} (c : Cur na F0 H0 F H) (hf : F a0 = none) (g5 : lb = true → na = some a0) (g6 : lb = false → H0 a0 = none) : Cur na F0 H0 F (upd H a0 u) := by
  refine ⟨c.ff, fun b o nb hb => ?_, fun b o hb => ?_, c.pr, fun b hb => ?_, c.nz⟩
  · by_cases q : b = a0
    · subst q
      cases lb with
      | true => exact absurd (g5 rfl) nb
      | false => rw [g6 rfl] at hb; cases hb
    · rw [upd_ne q]; exact c.hh b o nb hb
  · rw [upd_ne (ne_of_none hb hf)]; exact c.fh b o hb
  · obtain ⟨⟨o, ho⟩, hfb⟩ := c.lv b hb
    refine ⟨?_, hfb⟩
    by_cases q : b = a0
    · subst q; exact ⟨_, upd_same⟩
    · exact ⟨o, by rw [upd_ne q]; exact ho⟩
end
end Sf
namespace Sf
open PySem L2

theorem Isl.last {K : PySem.W.Frag} {F : Hp} {d : Dat} : ∀ {ds : List Dat} {vs : List V}, Isl K (ds ++ [d]) vs F → ∃ vs1 y, vs = vs1 ++ [y] ∧ Isl K ds vs1 F ∧ Is K d y F
  | [], _, h => by cases h with | cons h1 h2 => cases h2; exact ⟨[], _, rfl, .nil, h1⟩
  | z :: ds, _, h => by
    cases h with
    | cons h1 h2 =>
      obtain ⟨vs1, y, e, k1, k2⟩ := Isl.last (ds := ds) h2
      exact ⟨_ :: vs1, y, by rw [e]; rfl, .cons h1 k1, k2⟩
theorem Isl.set {K : PySem.W.Frag} {F : Hp} {d : Dat} {v : V} (hd : Is K d v F) : ∀ {ds : List Dat} {vs : List V} {j : Nat}, Isl K ds vs F → Isl K (ds.set j d) (vs.set j v) F
  | [], _, _, h => by cases h; exact .nil
  | _ :: _, _, 0, h => by cases h with | cons h1 h2 => exact .cons hd h2
  | _ :: ds, _, j + 1, h => by cases h with | cons h1 h2 => exact .cons h1 (Isl.set hd h2)
section
variable {X : Cx} {W : WX} {R : RX} {e a b c o i2 : Expr} {es : List Expr} {st : Stmt} {sts rest body : List Stmt} {ρ : List Sl} {P : PD} {k : Kn} {pos pos' p apos : Pos} {x m : Str} {l : Nat} {dd : List V} {s : DSp}

/-! ### isinstance -/
structure ClsI (K : PySem.W.Frag) (C : Addr) : Prop where
  cl : Cls K C
  ha : PySem.W.findIn K (.ref C) "__class__" = some (some (.builtin "object.__class__"))
  hn : PySem.W.specialIn K (.builtin "object.__class__") "__get__" = some (some (.builtin "getset_descriptor.__get__"))
  htk : PySem.W.takesIn K (.builtin "object.__class__") = some true
  hm : PySem.W.mroIn K C (.type "object") = some true
theorem TyD.tyx {K : PySem.W.Frag} {F H : Hp} {d : Dat} {t : Value} {x : V} (ty : TyD K d t) (hI : ∀ C ks ds, d = .ins C ks ds → ClsI K (He.ga K C)) (e : Ex F H) (h : Is K d x F) : TyX K H x t := by
  cases ty with
  | non => cases is_v h; exact .base .non
  | bl b => cases is_v h; exact .base (.bl b)
  | int i => cases is_v h; exact .base (.int i)
  | str i => cases is_v h; exact .base (.str i)
  | lst ds =>
    cases h with
    | lst ha hs => exact .base (.lst (e _ _ ha))
  | rol ds =>
    cases h with
    | rol ha hs =>
      rcases e.sql ha with (h | ⟨o, h⟩) | ⟨o, its, n, h1, h2, _⟩
      · exact .base (.lst h)
      · exact .base (.frz h)
      · exact .kList h1 h2
  | tup ds =>
    cases h with
    | tup ha hs =>
      rcases e.sqt ha with (h | ⟨o, h⟩) | ⟨o, its, n, h1, h2, _⟩
      · exact .base (.tup h)
      · exact .fTuple h
      · exact .kTuple h1 h2
  | ins C ks ds =>
    cases h with
    | ins ha hz hs =>
      have T := hI C ks ds rfl
      exact .base (.ins (e _ _ ha) T.cl T.ha T.hn T.htk T.hm)
theorem we_isi {q : Pos} (hm : X.mg "isinstance" = none) (h : WA X W R (e :: es) ρ fun ds ρ' => ∃ d c t u bb, ds = [d, .v c] ∧ TyD X.K d t ∧ (∀ C ks fs, d = .ins C ks fs → ClsI X.K (He.ga X.K C)) ∧ ClsV c u ∧ PySem.W.kitOne X.K t u = some bb ∧ P (dB bb) ρ') (hg : Gl X "isinstance" := by rfl)
    (he : starEach (e :: es) X.env = (false, eval e X.env) :: starEach es X.env := by rfl) (hpl : (backTo pos (starEach es X.env)).any (·.1) = false := by rfl) : WE X W R (.Call (.Name "isinstance" q) (e :: es) [] pos) ρ P := by
  refine we_cb call_isi hm (by decide +kernel) ⟨fun pos pins s σ na F0 H0 F H Q I c n x q => h.run pos pins s σ na F0 H0 F H Q I c n x fun ds vs ρ' F' H' c' n' hd p => q ds vs ρ' F' H' c' n' hd ?_⟩ hg (by decide) (by decide) he hpl
  obtain ⟨d, cv, t, u, bb, rfl, ty, hI, hc, hk, hp⟩ := p
  intro vs2 F2 H2 Q2 ex hi hq
  cases hi with
  | cons h1 h2 =>
    cases h2 with
    | cons h3 h4 =>
      cases h4
      cases is_v h3
      exact ⟨_, _, t, u, bb, rfl, hc, ty.tyx hI ex h1, hk, hq _ _ F2 H2 (.refl ex) .v hp⟩

/-! ### is, is not of bools -/
theorem od_isB {t u : Bool} (p : P (dB (decide (t = u))) ρ) : OpD X W R (compareOp .Is) (dB t) (dB u) ρ P := .of op_isBl fun x y F H Q e h1 h2 q => ⟨t, u, is_v h1, is_v h2, q _ _ F H (.refl e) .v p⟩
theorem od_notB {t u : Bool} (p : P (dB (!decide (t = u))) ρ) : OpD X W R (compareOp .IsNot) (dB t) (dB u) ρ P := .of op_notBl fun x y F H Q e h1 h2 q => ⟨t, u, is_v h1, is_v h2, q _ _ F H (.refl e) .v p⟩
/-- texts joined -/
theorem od_cat {x y : Str} (hl : x.length + y.length ≤ 100000) (p : P (dS (x ++ y)) ρ) : OpD X W R (binaryOp .Add) (dS x) (dS y) ρ P :=
  .of op_add_str fun u v F H Q e h1 h2 q => ⟨x, y, is_v h1, is_v h2, Nat.le_trans hl (by decide), q _ _ F H (.refl e) .v p⟩

/-! ### built-in functions of ints and texts -/
theorem we_abs {q : Pos} (hm : X.mg "abs" = none) (h : WA X W R [a] ρ fun ds ρ' => ∃ i, ds = [dI i] ∧ P (dI (if i < 0 then -i else i)) ρ') (hg : Gl X "abs" := by rfl)
    (he : starEach [a] X.env = (false, eval a X.env) :: starEach [] X.env := by rfl) (hpl : (backTo pos (starEach [] X.env)).any (·.1) = false := by rfl) : WE X W R (.Call (.Name "abs" q) [a] [] pos) ρ P := by
  refine we_cb call_abs hm (by decide +kernel) ⟨fun pos pins s σ na F0 H0 F H Q I c n x q => h.run pos pins s σ na F0 H0 F H Q I c n x fun ds vs ρ' F' H' c' n' hd p => q ds vs ρ' F' H' c' n' hd ?_⟩ hg (by decide) (by decide) he hpl
  obtain ⟨i, rfl, hp⟩ := p
  intro vs2 F2 H2 Q2 ex hi hq
  cases hi with
  | cons h1 h2 => cases h2; cases is_v h1; exact ⟨i, rfl, hq _ _ F2 H2 (.refl ex) .v hp⟩
theorem we_min2 {q : Pos} (hc : X.calm = true) (hm : X.mg "min" = none) (h : WA X W R [a, b] ρ fun ds ρ' => ∃ i j, ds = [dI i, dI j] ∧ P (dI (if j < i then j else i)) ρ') (hg : Gl X "min" := by rfl)
    (he : starEach [a, b] X.env = (false, eval a X.env) :: starEach [b] X.env := by rfl) (hpl : (backTo pos (starEach [b] X.env)).any (·.1) = false := by rfl) : WE X W R (.Call (.Name "min" q) [a, b] [] pos) ρ P := by
  refine we_cb (call_min2 hc) hm (by decide +kernel) ⟨fun pos pins s σ na F0 H0 F H Q I c n x q => h.run pos pins s σ na F0 H0 F H Q I c n x fun ds vs ρ' F' H' c' n' hd p => q ds vs ρ' F' H' c' n' hd ?_⟩ hg (by decide) (by decide) he hpl
  obtain ⟨i, j, rfl, hp⟩ := p
  intro vs2 F2 H2 Q2 ex hi hq
  cases hi with
  | cons h1 h2 =>
    cases h2 with
    | cons h3 h4 => cases h4; cases is_v h1; cases is_v h3; exact ⟨i, j, rfl, hq _ _ F2 H2 (.refl ex) .v hp⟩
theorem we_max2 {q : Pos} (hc : X.calm = true) (hm : X.mg "max" = none) (h : WA X W R [a, b] ρ fun ds ρ' => ∃ i j, ds = [dI i, dI j] ∧ P (dI (if j > i then j else i)) ρ') (hg : Gl X "max" := by rfl)
    (he : starEach [a, b] X.env = (false, eval a X.env) :: starEach [b] X.env := by rfl) (hpl : (backTo pos (starEach [b] X.env)).any (·.1) = false := by rfl) : WE X W R (.Call (.Name "max" q) [a, b] [] pos) ρ P := by
  refine we_cb (call_max2 hc) hm (by decide +kernel) ⟨fun pos pins s σ na F0 H0 F H Q I c n x q => h.run pos pins s σ na F0 H0 F H Q I c n x fun ds vs ρ' F' H' c' n' hd p => q ds vs ρ' F' H' c' n' hd ?_⟩ hg (by decide) (by decide) he hpl
  obtain ⟨i, j, rfl, hp⟩ := p
  intro vs2 F2 H2 Q2 ex hi hq
  cases hi with
  | cons h1 h2 =>
    cases h2 with
    | cons h3 h4 => cases h4; cases is_v h1; cases is_v h3; exact ⟨i, j, rfl, hq _ _ F2 H2 (.refl ex) .v hp⟩
theorem we_gcd {q : Pos} {g : Str} (hm : X.mg g = some (.builtin "math.gcd")) (h : WA X W R [a, b] ρ fun ds ρ' => ∃ i j : Int, ds = [dI i, dI j] ∧ P (dI ((Nat.gcd i.natAbs j.natAbs : Nat) : Int)) ρ') (hg : Gl X g := by rfl) (hdb : (g == ("__debug__" : Str)) = false := by decide)
    (he : starEach [a, b] X.env = (false, eval a X.env) :: starEach [b] X.env := by rfl) (hpl : (backTo pos (starEach [b] X.env)).any (·.1) = false := by rfl) : WE X W R (.Call (.Name g q) [a, b] [] pos) ρ P := by
  refine we_cbf cr_gcd hm ⟨fun pos pins s σ na F0 H0 F H Q I c n x q => h.run pos pins s σ na F0 H0 F H Q I c n x fun ds vs ρ' F' H' c' n' hd p => q ds vs ρ' F' H' c' n' hd ?_⟩ hg hdb he hpl
  obtain ⟨i, j, rfl, hp⟩ := p
  intro vs2 F2 H2 Q2 ex hi hq
  cases hi with
  | cons h1 h2 =>
    cases h2 with
    | cons h3 h4 => cases h4; cases is_v h1; cases is_v h3; exact ⟨i, j, rfl, hq _ _ F2 H2 (.refl ex) .v hp⟩
theorem we_strI {q : Pos} (hm : X.mg "str" = none) (h : WA X W R [a] ρ fun ds ρ' => ∃ i : Int, ds = [dI i] ∧ i.natAbs.log2 < 1920 ∧ P (dS (toString i)) ρ') (hg : Gl X "str" := by rfl)
    (he : starEach [a] X.env = (false, eval a X.env) :: starEach [] X.env := by rfl) (hpl : (backTo pos (starEach [] X.env)).any (·.1) = false := by rfl) : WE X W R (.Call (.Name "str" q) [a] [] pos) ρ P := by
  refine we_ct call_str_int hm (by decide +kernel) ⟨fun pos pins s σ na F0 H0 F H Q I c n x q => h.run pos pins s σ na F0 H0 F H Q I c n x fun ds vs ρ' F' H' c' n' hd p => q ds vs ρ' F' H' c' n' hd ?_⟩ hg (by decide) (by decide) he hpl
  obtain ⟨i, rfl, hl, hp⟩ := p
  intro vs2 F2 H2 Q2 ex hi hq
  cases hi with
  | cons h1 h2 => cases h2; cases is_v h1; exact ⟨i, rfl, hl, hq _ _ F2 H2 (.refl ex) .v hp⟩
/-- .. of a list of the def's own -/
theorem we_lenO (i : Nat) {q p1 : Pos} {x1 : Str} {lb : Bool} {ds : List Dat} (hm : X.mg "len" = none) (hi : ρ[i]? = some (.ow lb ds)) (hp : P (dI ds.length) ρ) (hN : X.N[i]? = some x1 := by rfl) (hv : Vis X.env.scope x1 := by first | exact Or.inl rfl | exact Or.inr (Or.inl rfl) | exact Or.inr (Or.inr rfl))
    (hd : (x1 == ("__debug__" : Str)) = false := by decide) (hcd : (x1 == ("__classdict__" : Str)) = false := by decide) (hg : Gl X "len" := by rfl)
    (he : starEach [.Name x1 p1] X.env = (false, eval (.Name x1 p1) X.env) :: starEach [] X.env := by rfl) (hpl : (backTo pos (starEach [] X.env)).any (·.1) = false := by rfl) : WE X W R (.Call (.Name "len" q) [.Name x1 p1] [] pos) ρ P :=
  .of (pe_callB call_len hg hm (by decide +kernel) (pa_cons (pe_var hN hv hd hcd) pa_nil he) (by decide) (by decide) he hpl) fun σ na F0 H0 F H Q c n xo q => by
    obtain ⟨a0, vs, g1, g2, g3, g4, _⟩ := n.ow i lb ds hi
    exact ⟨_, g1, _, ds.length, rfl, .inl ⟨vs, .inl (.inl g3), g4.length⟩, q _ _ ρ F H c n .v hp⟩
/-- xs.pop(0) of an own list -/
theorem we_pop0 (i : Nat) {p1 p2 apos cpos : Pos} {j : Nat} {x1 : Str} {lb : Bool} {d : Dat} {ds : List Dat} (hi : ρ[i]? = some (.ow lb (d :: ds))) (hp : P d (ρ.set i (.ow lb ds))) (hN : X.N[i]? = some x1 := by rfl) (hv : Vis X.env.scope x1 := by first | exact Or.inl rfl | exact Or.inr (Or.inl rfl) | exact Or.inr (Or.inr rfl))
    (hd : (x1 == ("__debug__" : Str)) = false := by decide) (hcd : (x1 == ("__classdict__" : Str)) = false := by decide)
    (hbase : attributeBase (.Name x1 p1) "pop" X.env (eval (.Name x1 p1) X.env) = eval (.Name x1 p1) X.env := by rfl) (hfew : ((backTo cpos (starEach [.Constant (.int 0) j p2] X.env)).all (fun x => !x.1) && (backToKw cpos (keywordEach [] X.env)).all (fun x => x.1.isSome)
      && decide (([.Constant (.int 0) j p2] : List Expr).length + ([] : List Keyword).length + (if ([] : List Keyword).isEmpty then 0 else 1) < 30)) = true := by rfl) (hline : (apos.endLine == cpos.line) = true := by rfl)
    (hs : starEach [.Constant (.int 0) j p2] X.env = (false, eval (.Constant (.int 0) j p2) X.env) :: starEach [] X.env := by rfl) (hpl : (backTo cpos (starEach [] X.env)).any (·.1) = false := by rfl) :
    WE X W R (.Call (.Attribute (.Name x1 p1) "pop" apos) [.Constant (.int 0) j p2] [] cpos) ρ P :=
  .of (pe_bm PySem.F.plainAttrs_list PySem.F.slot_list_pop PySem.F.type_list_pop mt_popAt (pe_var hN hv hd hcd) (pa_cons pe_int pa_nil hs) hbase hfew hline hs hpl) fun σ na F0 H0 F H Q c n xo q => by
    obtain ⟨a0, vs, g1, g2, g3, g4, g5, g6⟩ := n.ow i lb _ hi
    cases g4 with
    | cons h1 h2 =>
      rename_i v vs'
      refine ⟨_, g1, .inl ⟨rfl, _, .inl (.inl g3)⟩, a0, _, 0, 0, v, rfl, rfl, g3, by decide, by decide, ?_, rfl, ?_⟩
      · unfold seqIndex?; simp
      · exact q d v _ F _ (c.upL g2 g5 g6) (n.upL hi g1 g2 g3 g5 g6 h2) h1 hp
/-- xs.append(e) of an own list -/
theorem ws_app (i : Nat) {p1 apos cpos : Pos} {x1 : Str} (h : WE X W R e ρ fun d ρ' => ∃ lb ds, ρ'[i]? = some (.ow lb ds) ∧ ds.length < 100000 ∧ k.nx (ρ'.set i (.ow lb (ds ++ [d])))) (hN : X.N[i]? = some x1 := by rfl)
    (hi : ∃ lb ds, ρ[i]? = some (.ow lb ds)) (hv : Vis X.env.scope x1 := by first | exact Or.inl rfl | exact Or.inr (Or.inl rfl) | exact Or.inr (Or.inr rfl))
    (hd : (x1 == ("__debug__" : Str)) = false := by decide) (hcd : (x1 == ("__classdict__" : Str)) = false := by decide)
    (hbase : attributeBase (.Name x1 p1) "append" X.env (eval (.Name x1 p1) X.env) = eval (.Name x1 p1) X.env := by rfl) (hfew : ((backTo cpos (starEach [e] X.env)).all (fun x => !x.1) && (backToKw cpos (keywordEach [] X.env)).all (fun x => x.1.isSome)
      && decide (([e] : List Expr).length + ([] : List Keyword).length + (if ([] : List Keyword).isEmpty then 0 else 1) < 30)) = true := by rfl) (hline : (apos.endLine == cpos.line) = true := by rfl)
    (hs : starEach [e] X.env = (false, eval e X.env) :: starEach [] X.env := by rfl) (hpl : (backTo cpos (starEach [] X.env)).any (·.1) = false := by rfl)
    (hsw : swapsWith (.Call (.Attribute (.Name x1 p1) "append" apos) [e] [] cpos) none pos.line X.env = pure false := by rfl) :
    WS X W R (.Expr (.Call (.Attribute (.Name x1 p1) "append" apos) [e] [] cpos) pos) ρ k :=
  .of (ps_expr (pe_bm PySem.F.plainAttrs_list PySem.F.slot_list_append PySem.F.type_list_append mt_append (pe_var hN hv hd hcd) (pa_cons (pe_U (W := W)) pa_nil hs) hbase hfew hline hs hpl) hsw) fun σ na F0 H0 F H D c n xo q => by
    obtain ⟨lb0, ds0, hi⟩ := hi
    obtain ⟨a0, vs, g1, g2, g3, g4, g5, g6⟩ := n.ow i lb0 ds0 hi
    refine ⟨_, g1, .inl ⟨rfl, _, .inl (.inl g3)⟩, ρ, _, R, na, F0, H0, F, h, c, n, xo, fun d v ρ' F' H' c' n' hd ⟨lb, ds, hj, hl, p⟩ => ?_⟩
    obtain ⟨a1, ws, k1, k2, k3, k4, k5, k6⟩ := n'.ow i lb ds hj
    rw [g1] at k1
    cases k1
    exact ⟨a0, ws, v, rfl, rfl, k3, by rw [← k4.length]; exact Nat.lt_of_lt_of_le hl (by decide), q.nx _ σ F' _ (c'.upL k2 k5 k6) (n'.upL hj g1 k2 k3 k5 k6 (k4.append (.cons hd .nil))) p⟩
/-- an own list that changes no more -/
theorem Env1.frz {K : PySem.W.Frag} {σ : L2.St} {na : Option Addr} {F0 H0 F H : Hp} {i : Nat} {ds : List Dat} (e : Env1 K ρ σ na H0 F H) (c : Cur na F0 H0 F H) (hi : ρ[i]? = some (.ow false ds)) : ∃ F', Cur na F0 H0 F' H ∧ Env1 K (ρ.set i (.pu (.lst ds))) σ na H0 F' H := by
  obtain ⟨a0, vs, g1, g2, g3, g4, g5, g6⟩ := e.ow i false ds hi
  have ff : Ex F (upd F a0 (.lst vs)) := fun b o hb => by rw [upd_ne (ne_of_none hb g2)]; exact hb
  have hlen : i < ρ.length := (List.getElem?_eq_some_iff.mp hi).1
  have other : ∀ {j : Nat} {t : Sl}, (ρ.set i (.pu (.lst ds)))[j]? = some t → (i = j ∧ t = .pu (.lst ds)) ∨ (i ≠ j ∧ ρ[j]? = some t) := fun {j t} ht => by
    by_cases q0 : i = j
    · subst q0
      rw [List.getElem?_set_self hlen] at ht
      exact .inl ⟨rfl, (Option.some.inj ht).symm⟩
    · rw [List.getElem?_set_ne q0] at ht
      exact .inr ⟨q0, ht⟩
  refine ⟨upd F a0 (.lst vs), ⟨c.ff.trans ff, c.hh, fun b o hb => ?_, fun b o h1 h2 => ?_, fun b hb => ?_, c.nz⟩, ⟨fun j d' h1 => ?_, fun j l' ds' h1 => ?_, fun j C ks ds' h1 => ?_, fun j j' l1 l2 ds1 es1 b h1 h2 h3 h4 => ?_, fun j j' C D ks ls ds1 es1 h1 h2 => ?_, by rw [List.length_set]; exact e.ln⟩⟩
  · by_cases q : b = a0
    · subst q; rw [upd_same] at hb; cases hb; exact g3
    · rw [upd_ne q] at hb; exact c.fh b o hb
  · rw [upd_ne (ne_of_none h1 (g6 rfl))]; exact c.pr b o h1 h2
  · obtain ⟨o, ho⟩ := c.nz b hb
    rw [upd_ne (ne_of_none ho (g6 rfl))]; exact c.lv b hb
  · rcases other h1 with ⟨rfl, z⟩ | ⟨_, z⟩
    · cases z
      exact ⟨.ref a0, g1, .lst upd_same (g4.mono ff)⟩
    · obtain ⟨v, y1, y2⟩ := e.pu j d' z
      exact ⟨v, y1, y2.mono ff⟩
  · rcases other h1 with ⟨_, z⟩ | ⟨q0, z⟩
    · cases z
    · obtain ⟨b, ws', y1, y2, y3, y4, y5⟩ := e.ow j l' ds' z
      have nb : b ≠ a0 := fun z' => by
        subst z'
        exact q0 (e.ap i j false l' ds ds' b hi z g1 y1)
      exact ⟨b, ws', y1, by rw [upd_ne nb]; exact y2, y3, y4.mono ff, y5⟩
  · rcases other h1 with ⟨_, z⟩ | ⟨q0, z⟩
    · cases z
    · obtain ⟨b, dx, ws', y1, y2, y3, y4, y5, y6⟩ := e.ob j C ks ds' z
      have nb : b ≠ a0 := fun z' => by subst z'; rw [g3] at y4; cases y4
      exact ⟨b, dx, ws', y1, y2, by rw [upd_ne nb]; exact y3, y4, y5, y6.mono ff⟩
  · rcases other h1 with ⟨_, z1⟩ | ⟨_, z1⟩
    · cases z1
    · rcases other h2 with ⟨_, z2⟩ | ⟨_, z2⟩
      · cases z2
      · exact e.ap j j' l1 l2 ds1 es1 b z1 z2 h3 h4
  · rcases other h1 with ⟨_, z1⟩ | ⟨_, z1⟩
    · cases z1
    · rcases other h2 with ⟨_, z2⟩ | ⟨_, z2⟩
      · cases z2
      · exact e.ao j j' C D ks ls ds1 es1 z1 z2
theorem wss_frz (i : Nat) {ds : List Dat} (hi : ρ[i]? = some (.ow false ds)) (h : WSs X W R sts (ρ.set i (.pu (.lst ds))) k) : WSs X W R sts ρ k :=
  ⟨fun pins s σ na F0 H0 F H D I c n x q => by
    obtain ⟨F', c', n'⟩ := n.frz c hi
    exact h.run pins s σ na F0 H0 F' H D I c' n' x q⟩

/-! ### texts with braces -/
theorem we_fmtS (h : WE X W R e ρ fun d ρ' => ∃ y : Str, d = dS y ∧ y.length ≤ 100000 ∧ P (dS y) ρ') : WE X W R (.FormattedValue e (-1) none pos) ρ P :=
  .of (pe_fmt (pe_U (W := W))) fun σ na F0 H0 F H Q c n x q => ⟨ρ, _, R, na, F0, H0, F, h, c, n, x, fun d v ρ' F' H' c' n' hd ⟨y, e, hl, p⟩ => by
    subst e; exact .inl ⟨y, is_v hd, Nat.le_trans hl (by decide), q _ _ ρ' F' H' c' n' .v p⟩⟩
theorem we_fmtI (h : WE X W R e ρ fun d ρ' => ∃ i : Int, d = dI i ∧ i.natAbs.log2 < 1920 ∧ P (dS (toString i)) ρ') : WE X W R (.FormattedValue e (-1) none pos) ρ P :=
  .of (pe_fmt (pe_U (W := W))) fun σ na F0 H0 F H Q c n x q => ⟨ρ, _, R, na, F0, H0, F, h, c, n, x, fun d v ρ' F' H' c' n' hd ⟨i, e, hl, p⟩ => by
    subst e; exact .inr ⟨i, is_v hd, hl, q _ _ ρ' F' H' c' n' .v p⟩⟩
theorem we_js1 (h : WE X W R e ρ P) : WE X W R (.JoinedStr [e] pos) ρ P := .of (pe_joined1 (pe_U (W := W))) fun σ na F0 H0 F H Q c n x q => ⟨ρ, _, R, na, F0, H0, F, h, c, n, x, q⟩
theorem we_js2 (h : WE X W R a ρ fun d1 ρ1 => ∃ y1 : Str, d1 = dS y1 ∧ y1.length ≤ 100000 ∧ WE X W R b ρ1 fun d2 ρ2 => ∃ y2 : Str, d2 = dS y2 ∧ y1.length + y2.length ≤ 100000 ∧ P (dS (y1 ++ y2)) ρ2) : WE X W R (.JoinedStr [a, b] pos) ρ P :=
  .of (pe_joined (.cons (pe_U (W := W)) (.cons (pe_U (W := W)) .nil))) fun σ na F0 H0 F H Q c n x q => ⟨ρ, _, R, na, F0, H0, F, h, c, n, x, fun d1 v1 ρ1 F1 H1 c1 n1 hd1 ⟨y1, e1, hl1, h2⟩ => by
    subst e1
    refine ⟨y1, is_v hd1, ?_, ρ1, _, R, na, F0, H0, F1, h2, c1, n1, x, fun d2 v2 ρ2 F2 H2 c2 n2 hd2 ⟨y2, e2, hl, p⟩ => ?_⟩
    · rw [Str.empty_append]; exact Nat.le_trans (by omega) (show 100000 ≤ sizeLine by decide)
    · subst e2
      rw [Str.empty_append]
      exact ⟨y2, is_v hd2, by rw [Str.length_append]; exact Nat.le_trans hl (by decide), q _ _ ρ2 F2 H2 c2 n2 .v p⟩⟩
/-- a's reading, then b's, whatever operation follows by values -/
theorem tU2 {σ : L2.St} {na : Option Addr} {F0 H0 F H : Hp} {r : V → V → Hp → Prop} (h : WE X W R a ρ fun d1 ρ1 => WE X W R b ρ1 fun d2 ρ2 => ∀ x y F2 H2, Cur na F0 H0 F2 H2 → Env1 X.K ρ2 σ na H0 F2 H2 → Is X.K d1 x F2 → Is X.K d2 y F2 → r x y H2)
    (c : Cur na F0 H0 F H) (n : Env1 X.K ρ σ na H0 F H) (xo : ExcOk X.K W R na F0 H0) : tU X W a σ H fun x H1 => tU X W b σ H1 fun y H2 => r x y H2 :=
  ⟨ρ, _, R, na, F0, H0, F, h, c, n, xo, fun d1 v1 ρ1 F1 H1 c1 n1 h1 p1 => ⟨ρ1, _, R, na, F1, H0, F1, p1, c1.re, n1, xo.re c1, fun d2 v2 ρ2 F2 H2 c2 n2 h2 p2 => p2 v1 v2 F2 H2 (c1.back c2) n2 (h1.mono c2.ff) h2⟩⟩
/-- a list or a tuple -/
inductive SeqD : Dat → List Dat → Prop where
  | lst (ds : List Dat) : SeqD (.lst ds) ds
  | rol (ds : List Dat) : SeqD (.rol ds) ds
  | tup (ds : List Dat) : SeqD (.tup ds) ds
theorem SeqD.sq {K : PySem.W.Frag} {d : Dat} {ds : List Dat} {x : V} {F H : Hp} (h : SeqD d ds) (e : Ex F H) (hd : Is K d x F) : ∃ a vs, x = .ref a ∧ (SqL K H a vs ∨ SqT K H a vs) ∧ Isl K ds vs F := by
  cases h with
  | lst => cases hd with | lst ha hs => exact ⟨_, _, rfl, .inl (.inl (.inl (e _ _ ha))), hs⟩
  | rol => cases hd with | rol ha hs => exact ⟨_, _, rfl, .inl (e.sql ha), hs⟩
  | tup => cases hd with | tup ha hs => exact ⟨_, _, rfl, .inr (e.sqt ha), hs⟩
theorem at_of {K : PySem.W.Frag} {F : Hp} {ds : List Dat} {vs : List V} {j : Int} {m : Nat} {d : Dat} (hi : Isl K ds vs F) (h1 : ixN ds.length j = some m) (h2 : ds[m]? = some d) : ∃ v, atI vs j = some v ∧ Is K d v F := by
  obtain ⟨v, g1, g2⟩ := hi.get h2
  refine ⟨v, ?_, g2⟩
  unfold atI
  rw [← hi.length, h1]
  exact g1
/-- len of a list or tuple that stands still -/
theorem we_len {q : Pos} (hm : X.mg "len" = none) (h : WA X W R [a] ρ fun ds ρ' => ∃ d es, ds = [d] ∧ SeqD d es ∧ P (dI es.length) ρ') (hg : Gl X "len" := by rfl)
    (he : starEach [a] X.env = (false, eval a X.env) :: starEach [] X.env := by rfl) (hpl : (backTo pos (starEach [] X.env)).any (·.1) = false := by rfl) : WE X W R (.Call (.Name "len" q) [a] [] pos) ρ P := by
  refine we_cb call_len hm (by decide +kernel) ⟨fun pos pins s σ na F0 H0 F H Q I c n x q => h.run pos pins s σ na F0 H0 F H Q I c n x fun ds vs ρ' F' H' c' n' hd p => q ds vs ρ' F' H' c' n' hd ?_⟩ hg (by decide) (by decide) he hpl
  obtain ⟨d, es, rfl, he, hp⟩ := p
  intro vs2 F2 H2 Q2 ex hi hq
  cases hi with
  | cons h1 h2 =>
    cases h2
    obtain ⟨a0, us, rfl, hs, hl⟩ := he.sq ex h1
    refine ⟨_, es.length, rfl, ?_, hq _ _ F2 H2 (.refl ex) .v hp⟩
    rcases hs with hs | hs
    · exact .inl ⟨_, hs, hl.length⟩
    · exact .inr ⟨_, hs, hl.length⟩
/-- an item of a list or tuple -/
theorem we_ix (h : WE X W R a ρ fun d1 ρ1 => WE X W R b ρ1 fun d2 ρ2 => ∃ ds j m d, SeqD d1 ds ∧ d2 = dI j ∧ ixN ds.length j = some m ∧ ds[m]? = some d ∧ P d ρ2) (hs : PlainIx b := by exact fun _ _ => rfl) : WE X W R (.Subscript a b pos) ρ P :=
  .of (pe_ix ix_seq (pe_U (W := W)) (pe_U (W := W)) hs) fun σ na F0 H0 F H Q c n xo q => by
    refine tU2 (h.imp fun d1 ρ1 hb => hb.imp fun d2 ρ2 hh x y F2 H2 c2 n2 i1 i2 => ?_) c n xo
    obtain ⟨ds, j, m, d, e1, rfl, e3, e4, hp⟩ := hh
    obtain ⟨a0, vs, rfl, hq, hi⟩ := e1.sq c2.fh i1
    obtain ⟨v, h1, h2⟩ := at_of hi e3 e4
    rcases hq with hq | hq
    · exact .inl ⟨_, _, j, v, rfl, is_v i2, hq, h1, q d v ρ2 F2 H2 c2 n2 h2 hp⟩
    · exact .inr (.inl ⟨_, _, j, v, rfl, is_v i2, hq, h1, q d v ρ2 F2 H2 c2 n2 h2 hp⟩)
/-- xs.pop() -/
theorem we_popE (i : Nat) {p1 apos cpos : Pos} {x1 : Str} {lb : Bool} {d : Dat} {ds : List Dat} (hi : ρ[i]? = some (.ow lb (ds ++ [d]))) (hp : P d (ρ.set i (.ow lb ds))) (hN : X.N[i]? = some x1 := by rfl) (hv : Vis X.env.scope x1 := by first | exact Or.inl rfl | exact Or.inr (Or.inl rfl) | exact Or.inr (Or.inr rfl))
    (hd : (x1 == ("__debug__" : Str)) = false := by decide) (hcd : (x1 == ("__classdict__" : Str)) = false := by decide)
    (hbase : attributeBase (.Name x1 p1) "pop" X.env (eval (.Name x1 p1) X.env) = eval (.Name x1 p1) X.env := by rfl) (hline : (apos.endLine == cpos.line) = true := by rfl) :
    WE X W R (.Call (.Attribute (.Name x1 p1) "pop" apos) [] [] cpos) ρ P :=
  .of (pe_bm0 PySem.F.plainAttrs_list PySem.F.slot_list_pop PySem.F.type_list_pop mt_pop (pe_var hN hv hd hcd) hbase hline) fun σ na F0 H0 F H Q c n xo q => by
    obtain ⟨a0, vs, g1, g2, g3, g4, g5, g6⟩ := n.ow i lb _ hi
    obtain ⟨vs1, y, rfl, h1, h2⟩ := g4.last
    refine ⟨_, g1, .inl ⟨rfl, _, .inl (.inl g3)⟩, a0, vs1 ++ [y], y, rfl, rfl, g3, by simp, ?_⟩
    rw [List.dropLast_concat]
    exact q d y _ F _ (c.upL g2 g5 g6) (n.upL hi g1 g2 g3 g5 g6 h1) h2 hp
/-- xs[j] of an own list -/
theorem we_ixO (i : Nat) {p1 : Pos} {x1 : Str} (h : WE X W R b ρ fun d2 ρ2 => ∃ lb ds j m d, ρ2[i]? = some (.ow lb ds) ∧ d2 = dI j ∧ ixN ds.length j = some m ∧ ds[m]? = some d ∧ P d ρ2) (hi0 : ∃ lb ds, ρ[i]? = some (.ow lb ds)) (hN : X.N[i]? = some x1 := by rfl)
    (hv : Vis X.env.scope x1 := by first | exact Or.inl rfl | exact Or.inr (Or.inl rfl) | exact Or.inr (Or.inr rfl)) (hd : (x1 == ("__debug__" : Str)) = false := by decide) (hcd : (x1 == ("__classdict__" : Str)) = false := by decide) (hs : PlainIx b := by exact fun _ _ => rfl) : WE X W R (.Subscript (.Name x1 p1) b pos) ρ P :=
  .of (pe_ix ix_seq (pe_var hN hv hd hcd) (pe_U (W := W)) hs) fun σ na F0 H0 F H Q c n xo q => by
    obtain ⟨lb0, ds0, hi0⟩ := hi0
    obtain ⟨a0, vs, g1, _⟩ := n.ow i lb0 ds0 hi0
    refine ⟨_, g1, ρ, _, R, na, F0, H0, F, h, c, n, xo, fun d2 y ρ2 F2 H2 c2 n2 hd2 ⟨lb, ds, j, m, d, hi, e2, e3, e4, hp⟩ => ?_⟩
    subst e2
    obtain ⟨a1, ws, k1, k2, k3, k4, k5, k6⟩ := n2.ow i lb ds hi
    rw [g1] at k1
    cases k1
    obtain ⟨v, h1, h2⟩ := at_of k4 e3 e4
    exact .inl ⟨_, _, j, v, rfl, is_v hd2, .inl (.inl k3), h1, q d v _ F2 H2 c2 n2 h2 hp⟩
/-- isinstance(e, (list, tuple)) -/
theorem we_isiLT {q p1 p2 p3 : Pos} {k0 : Nat} (hm : X.mg "isinstance" = none) (hl : X.mg "list" = none) (ht : X.mg "tuple" = none) (h : WE X W R e ρ fun d ρ' => ∃ t bb, TyD X.K d t ∧ (∀ C ks fs, d = .ins C ks fs → ClsI X.K (He.ga X.K C)) ∧ PySem.W.kitAny X.K t [.type "list", .type "tuple"] = some bb ∧ P (dB bb) ρ') (hg : Gl X "isinstance" := by rfl) (hgl : Gl X "list" := by rfl) (hgt : Gl X "tuple" := by rfl)
    (he : starEach [e, .Tuple [.Name "list" p1, .Name "tuple" p2] k0 p3] X.env = (false, eval e X.env) :: starEach [.Tuple [.Name "list" p1, .Name "tuple" p2] k0 p3] X.env := by rfl) (he2 : starEach [.Tuple [.Name "list" p1, .Name "tuple" p2] k0 p3] X.env = (false, eval (.Tuple [.Name "list" p1, .Name "tuple" p2] k0 p3) X.env) :: starEach [] X.env := by rfl)
    (he3 : starEach [.Name "list" p1, .Name "tuple" p2] X.env = (false, eval (.Name "list" p1) X.env) :: starEach [.Name "tuple" p2] X.env := by rfl) (he4 : starEach [.Name "tuple" p2] X.env = (false, eval (.Name "tuple" p2) X.env) :: starEach [] X.env := by rfl)
    (hpl : (backTo pos (starEach [.Tuple [.Name "list" p1, .Name "tuple" p2] k0 p3] X.env)).any (·.1) = false := by rfl) : WE X W R (.Call (.Name "isinstance" q) [e, .Tuple [.Name "list" p1, .Name "tuple" p2] k0 p3] [] pos) ρ P :=
  .of (pe_callB call_isiT hg hm (show bootBuiltins "isinstance" = some (.builtin "isinstance") by decide +kernel) (pa_cons (pe_U (W := W)) (pa_cons (pe_tup (pa_cons (pe_bltn (v := .ty "list") hgl hl (by decide +kernel) rfl (by decide) (by decide)) (pa_cons (pe_bltn (v := .ty "tuple") hgt ht (by decide +kernel) rfl (by decide) (by decide)) pa_nil he4) he3)) pa_nil he2) he) (by decide) (by decide) he hpl) fun σ na F0 H0 F H Q c n xo q =>
    ⟨ρ, _, R, na, F0, H0, F, h, c, n, xo, fun d v ρ' F' H' c' n' hd ⟨t, bb, ty, ci, hk, hp⟩ => ⟨by decide, fun a ha => by
      have st := Stp.junk (o := .tup [V.ty "list", V.ty "tuple"]) c'.fh ha
      exact ⟨v, a, [V.ty "list", V.ty "tuple"], t, [.type "list", .type "tuple"], bb, rfl, upd_same, .cons (.ty _) (.cons (.ty _) .nil), ty.tyx ci (c'.stp st).fh (hd.mono st.ff), hk, q _ _ ρ' F' _ (c'.stp st) (n'.stp st) .v hp⟩⟩⟩
/-- i <= j < k of ints -/
theorem we_leLt (h : WE X W R a ρ fun d1 ρ1 => WE X W R b ρ1 fun d2 ρ2 => ∃ i j : Int, d1 = dI i ∧ d2 = dI j ∧ (i ≤ j → WE X W R c ρ2 fun d3 ρ3 => ∃ z : Int, d3 = dI z ∧ P (dB (decide (j < z))) ρ3) ∧ (¬ i ≤ j → P (dB false) ρ2)) (hm : lastMarks [.LtE, .Lt] [b, c] = false := by rfl) : WE X W R (.Compare a [.LtE, .Lt] [b, c] pos) ρ P :=
  .of (pe_chain op_le op_lt (pe_U (W := W)) (pe_U (W := W)) (pe_U (W := W)) hm) fun σ na F0 H0 F H Q c0 n xo q => ⟨ρ, _, R, na, F0, H0, F, h, c0, n, xo, fun d1 v1 ρ1 F1 H1 c1 n1 h1 p1 => ⟨ρ1, _, R, na, F0, H0, F1, p1, c1, n1, xo, fun d2 v2 ρ2 F2 H2 c2 n2 h2 ⟨i, j, e1, e2, p2, p3⟩ => by
    subst e1
    subst e2
    have ev1 := is_v h1
    have ev2 := is_v h2
    refine ⟨i, j, ev1, ev2, decide (i ≤ j), rfl, ?_⟩
    by_cases hij : i ≤ j
    · rw [decide_eq_true hij]
      refine iteT ⟨ρ2, _, R, na, F0, H0, F2, p2 hij, c2, n2, xo, fun d3 v3 ρ3 F3 H3 c3 n3 h3 ⟨z, e3, p4⟩ => ?_⟩
      subst e3
      exact ⟨j, z, ev2, is_v h3, q _ _ ρ3 F3 H3 c3 n3 .v p4⟩
    · rw [decide_eq_false hij]
      exact iteF (q _ _ ρ2 F2 H2 c2 n2 .v (p3 hij))⟩⟩
/-- .. as a test -/
theorem wt_leLt {PT : Bool → List Sl → Prop} (h : WE X W R a ρ fun d1 ρ1 => WE X W R b ρ1 fun d2 ρ2 => ∃ i j : Int, d1 = dI i ∧ d2 = dI j ∧ (i ≤ j → WE X W R c ρ2 fun d3 ρ3 => ∃ z : Int, d3 = dI z ∧ PT (decide (j < z)) ρ3) ∧ (¬ i ≤ j → PT false ρ2)) (hm : lastMarks [.LtE, .Lt] [b, c] = false := by rfl) : WT X W R (.Compare a [.LtE, .Lt] [b, c] pos) ρ PT :=
  .of (pt_chain op_le op_lt (pe_U (W := W)) (pe_U (W := W)) (pe_U (W := W)) hm) fun σ na F0 H0 F H Q c0 n xo q => ⟨ρ, _, R, na, F0, H0, F, h, c0, n, xo, fun d1 v1 ρ1 F1 H1 c1 n1 h1 p1 => ⟨ρ1, _, R, na, F0, H0, F1, p1, c1, n1, xo, fun d2 v2 ρ2 F2 H2 c2 n2 h2 ⟨i, j, e1, e2, p2, p3⟩ => by
    subst e1
    subst e2
    have ev1 := is_v h1
    have ev2 := is_v h2
    refine ⟨i, j, ev1, ev2, decide (i ≤ j), rfl, ?_⟩
    by_cases hij : i ≤ j
    · rw [decide_eq_true hij]
      refine iteT ⟨ρ2, _, R, na, F0, H0, F2, p2 hij, c2, n2, xo, fun d3 v3 ρ3 F3 H3 c3 n3 h3 ⟨z, e3, p4⟩ => ?_⟩
      subst e3
      exact ⟨j, z, ev2, is_v h3, _, rfl, q _ ρ3 F3 H3 c3 n3 p4⟩
    · rw [decide_eq_false hij]
      exact iteF ⟨_, rfl, q _ ρ2 F2 H2 c2 n2 (p3 hij)⟩⟩⟩
/-- xs[e1] = e of an own list -/
theorem ws_putO (i : Nat) {x1 : Str} {p1 : Pos} (h : WE X W R e ρ fun d ρ1 => (∃ lb ds, ρ1[i]? = some (.ow lb ds)) ∧ WE X W R i2 ρ1 fun d2 ρ2 => ∃ lb ds j m, ρ2[i]? = some (.ow lb ds) ∧ d2 = dI j ∧ ixN ds.length j = some m ∧ k.nx (ρ2.set i (.ow lb (ds.set m d)))) (hN : X.N[i]? = some x1 := by rfl)
    (hv : Vis X.env.scope x1 := by first | exact Or.inl rfl | exact Or.inr (Or.inl rfl) | exact Or.inr (Or.inr rfl)) (hd : (x1 == ("__debug__" : Str)) = false := by decide) (hcd : (x1 == ("__classdict__" : Str)) = false := by decide)
    (hs : swapsWithSole [.Subscript (.Name x1 p1) i2 pos'] e pos.line X.env = pure false := by rfl) (hw : swappedStores [.Subscript (.Name x1 p1) i2 pos'] e X.env = pure none := by rfl) (h1 : (assignEach [.Subscript (.Name x1 p1) i2 pos'] X.env).map (·.2) = [assign (.Subscript (.Name x1 p1) i2 pos') X.env] := by rfl)
    (ha : ∀ v, assign (.Subscript (.Name x1 p1) i2 pos') X.env v = (do
      let ov ← holding [v] (eval (.Name x1 p1) X.env)
      let iv ← holding [v, ov] (eval i2 X.env)
      standAt pos'
      holding [v, ov, iv] (setItem ov iv v)
      release [v, ov, iv] []) := by intro _; rfl) : WS X W R (.Assign [.Subscript (.Name x1 p1) i2 pos'] e pos) ρ k :=
  .of (ps_asg (pe_U (W := W)) (pg_sub (pe_var hN hv hd hcd) (pe_U (W := W)) set_list ha) hs hw h1) fun σ na F0 H0 F H D c0 n xo q => ⟨ρ, _, R, na, F0, H0, F, h, c0, n, xo, fun d v ρ1 F1 H1 c1 n1 hd1 ⟨⟨lb0, ds0, hi0⟩, p1⟩ => by
    obtain ⟨a0, _, hs0, _⟩ := n1.ow i lb0 ds0 hi0
    refine ⟨_, hs0, ρ1, _, R, na, F1, H0, F1, p1, c1.re, n1, xo.re c1, fun d2 v2 ρ2 F2 H2 c2 n2 h2 ⟨lb, ds, j, m, hi, e3, hix, hp⟩ => ?_⟩
    subst e3
    obtain ⟨a1, us, g1, g2, g3, g4, g5, g6⟩ := n2.ow i lb ds hi
    rw [hs0] at g1
    cases g1
    rw [g4.length] at hix
    refine ⟨a0, us, j, m, rfl, is_v h2, g3, hix, ?_⟩
    have hset : Isl X.K (ds.set m d) (us.set m v) F2 := g4.set (hd1.mono c2.ff)
    exact q.nx _ σ F2 _ ((c1.back c2).upL g2 g5 g6) (n2.upL hi hs0 g2 g3 g5 g6 hset) hp⟩
end
end Sf
namespace Sf
open PySem L2

theorem upd_id {H : Hp} {D : Addr} {o : HO} (h : H D = some o) : upd H D o = H := by
  funext q
  by_cases z : q = D
  · subst z; rw [upd_same, h]
  · rw [upd_ne z]
/-! ### list comprehensions whose items raise nothing; they may change lists of the def's own -/
def pur1 : Sl → Sl
  | .pu d => .pu d
  | _ => .no
/-- the block's own names forgotten -/
def wip (ρ : List Sl) : List Nat → List Sl
  | [] => ρ
  | v :: vs => (wip ρ vs).set v .no
/-- behind the block: what its names hid stands again -/
def bak (ρ0 ρ : List Sl) : List Nat → List Sl
  | [] => ρ
  | v :: vs => (bak ρ0 ρ vs).set v (match ρ0[v]? with | some s => pur1 s | none => .no)
theorem wip_some {ρ : List Sl} {i : Nat} {s : Sl} : ∀ {vs : List Nat}, (wip ρ vs)[i]? = some s → s = .no ∨ (ρ[i]? = some s ∧ i ∉ vs)
  | [], h => .inr ⟨h, by simp⟩
  | v :: vs, h => by
    unfold wip at h
    by_cases q : v = i
    · subst q
      rw [List.getElem?_set_self'] at h
      cases e : (wip ρ vs)[v]? with
      | none => rw [e] at h; cases h
      | some t => rw [e] at h; cases h; exact .inl rfl
    · rw [List.getElem?_set_ne q] at h
      rcases wip_some h with z | ⟨z1, z2⟩
      · exact .inl z
      · exact .inr ⟨z1, by simp only [List.mem_cons, not_or]; exact ⟨fun e => q e.symm, z2⟩⟩
theorem wip_length (ρ : List Sl) : ∀ vs : List Nat, (wip ρ vs).length = ρ.length
  | [] => rfl
  | v :: vs => by unfold wip; rw [List.length_set, wip_length ρ vs]
theorem bak_length (ρ0 ρ : List Sl) : ∀ vs : List Nat, (bak ρ0 ρ vs).length = ρ.length
  | [] => rfl
  | v :: vs => by unfold bak; rw [List.length_set, bak_length ρ0 ρ vs]
theorem bak_some {ρ0 ρ : List Sl} {i : Nat} {s : Sl} : ∀ {vs : List Nat}, (bak ρ0 ρ vs)[i]? = some s → (i ∈ vs ∧ (s = .no ∨ ∃ d, s = .pu d ∧ ρ0[i]? = some (.pu d))) ∨ (ρ[i]? = some s ∧ i ∉ vs)
  | [], h => .inr ⟨h, by simp⟩
  | v :: vs, h => by
    unfold bak at h
    by_cases q : v = i
    · subst q
      rw [List.getElem?_set_self'] at h
      cases e : (bak ρ0 ρ vs)[v]? with
      | none => rw [e] at h; cases h
      | some t =>
        rw [e] at h
        refine .inl ⟨List.mem_cons_self, ?_⟩
        cases e0 : ρ0[v]? with
        | none => rw [e0] at h; cases h; exact .inl rfl
        | some u =>
          rw [e0] at h
          cases u with
          | pu d => cases h; exact .inr ⟨d, rfl, rfl⟩
          | no => cases h; exact .inl rfl
          | ow l ds => cases h; exact .inl rfl
          | ob C ks ds => cases h; exact .inl rfl
    · rw [List.getElem?_set_ne q] at h
      rcases bak_some h with ⟨z, y⟩ | ⟨z1, z2⟩
      · exact .inl ⟨List.mem_cons_of_mem _ z, y⟩
      · exact .inr ⟨z1, by simp only [List.mem_cons, not_or]; exact ⟨fun e => q e.symm, z2⟩⟩
section
variable {K : PySem.W.Frag} {ρ ρ0 : List Sl} {σ : L2.St} {na : Option Addr} {F0 H0 F H : Hp} {D : Addr}
theorem Env1.wip (e : Env1 K ρ σ na H0 F H) (vs : List Nat) : Env1 K (wip ρ vs) (wipe σ vs) na H0 F H := by
  have un : ∀ {j : Nat} {s : Sl}, (Sf.wip ρ vs)[j]? = some s → s ≠ .no → ρ[j]? = some s ∧ (wipe σ vs)[j]? = σ[j]? := fun {j s} h n => by
    rcases wip_some h with z | ⟨z1, z2⟩
    · exact absurd z n
    · exact ⟨z1, wipe_out z2⟩
  refine ⟨fun i d h => ?_, fun i l ds h => ?_, fun i C ks ds h => ?_, fun i j l m ds es a h1 h2 h3 h4 => ?_, fun i j C D ks ls ds es h1 h2 => e.ao i j C D ks ls ds es (un h1 fun z => nomatch z).1 (un h2 fun z => nomatch z).1, by rw [wip_length, wipe_length, e.ln]⟩
  · obtain ⟨h1, h2⟩ := un h fun z => nomatch z
    rw [h2]; exact e.pu i d h1
  · obtain ⟨h1, h2⟩ := un h fun z => nomatch z
    rw [h2]; exact e.ow i l ds h1
  · obtain ⟨h1, h2⟩ := un h fun z => nomatch z
    rw [h2]; exact e.ob i C ks ds h1
  · obtain ⟨g1, g2⟩ := un h1 fun z => nomatch z
    obtain ⟨k1, k2⟩ := un h2 fun z => nomatch z
    rw [g2] at h3
    rw [k2] at h4
    exact e.ap i j l m ds es a g1 k1 h3 h4
/-- the outer slots again: e0 as they were, e as the block left them -/
theorem Env1.bak {F1 H1 : Hp} {vs : List Nat} (e0 : Env1 K ρ0 σ na H0 F1 H1) (ff : Ex F1 F) (e : Env1 K ρ (wipe σ vs) na H0 F H) : Env1 K (bak ρ0 ρ vs) σ na H0 F H := by
  have un : ∀ {j : Nat} {s : Sl}, (Sf.bak ρ0 ρ vs)[j]? = some s → (∀ d, s ≠ .pu d) → s ≠ .no → ρ[j]? = some s ∧ (wipe σ vs)[j]? = σ[j]? := fun {j s} h n n2 => by
    rcases bak_some h with ⟨_, z | ⟨d, z, _⟩⟩ | ⟨z1, z2⟩
    · exact absurd z n2
    · exact absurd z (n d)
    · exact ⟨z1, wipe_out z2⟩
  refine ⟨fun i d h => ?_, fun i l ds h => ?_, fun i C ks ds h => ?_, fun i j l m ds es a h1 h2 h3 h4 => ?_, fun i j C D ks ls ds es h1 h2 => e.ao i j C D ks ls ds es (un h1 (fun _ z => nomatch z) fun z => nomatch z).1 (un h2 (fun _ z => nomatch z) fun z => nomatch z).1, by rw [bak_length, e.ln, wipe_length]⟩
  · rcases bak_some h with ⟨_, z | ⟨d', z, z2⟩⟩ | ⟨z1, z2⟩
    · cases z
    · cases z
      obtain ⟨v, y1, y2⟩ := e0.pu i d z2
      exact ⟨v, y1, y2.mono ff⟩
    · have y := e.pu i d z1
      rw [wipe_out z2] at y
      exact y
  · obtain ⟨h1, h2⟩ := un h (fun _ z => nomatch z) fun z => nomatch z
    rw [← h2]; exact e.ow i l ds h1
  · obtain ⟨h1, h2⟩ := un h (fun _ z => nomatch z) fun z => nomatch z
    rw [← h2]; exact e.ob i C ks ds h1
  · obtain ⟨g1, g2⟩ := un h1 (fun _ z => nomatch z) fun z => nomatch z
    obtain ⟨k1, k2⟩ := un h2 (fun _ z => nomatch z) fun z => nomatch z
    rw [← g2] at h3
    rw [← k2] at h4
    exact e.ap i j l m ds es a g1 k1 h3 h4
theorem Env1.inD {o : HO} (e : Env1 K ρ σ na H0 F H) (n : NotAt ρ σ D) : Env1 K ρ σ na (upd H0 D o) F H :=
  ⟨e.pu, fun i l ds h => by
    obtain ⟨a, vs, h1, h2, h3, h4, h5, h6⟩ := e.ow i l ds h
    refine ⟨a, vs, h1, h2, h3, h4, h5, fun z => ?_⟩
    rw [upd_ne (fun q => n i l ds h (by rw [h1, q]))]
    exact h6 z, e.ob, e.ap, e.ao, e.ln⟩
theorem Env1.notAt {o : HO} (e : Env1 K ρ σ na (upd H0 D o) F H) (hn : na ≠ some D) : NotAt ρ σ D := fun i l ds h z => by
  obtain ⟨a, vs, h1, h2, h3, h4, h5, h6⟩ := e.ow i l ds h
  rw [h1] at z
  cases z
  cases l with
  | true => exact hn (h5 rfl)
  | false => have := h6 rfl; rw [upd_same] at this; cases this
theorem Env1.outD {o u : HO} (e : Env1 K ρ σ na (upd H0 D o) F H) (hn : na ≠ some D) : Env1 K ρ σ na H0 F (upd H D u) := by
  have n := e.notAt hn
  refine ⟨e.pu, fun i l ds h => ?_, fun i C ks ds h => ?_, e.ap, e.ao, e.ln⟩
  · obtain ⟨a, vs, h1, h2, h3, h4, h5, h6⟩ := e.ow i l ds h
    have q : a ≠ D := fun q => n i l ds h (by rw [h1, q])
    refine ⟨a, vs, h1, h2, by rw [upd_ne q]; exact h3, h4, h5, fun z => ?_⟩
    have := h6 z
    rw [upd_ne q] at this
    exact this
  · obtain ⟨a, dx, vs, h1, h2, h3, h4, h5, h6⟩ := e.ob i C ks ds h
    exact ⟨a, dx, vs, h1, h2, h3, by rw [upd_ne (fun q => hn (by rw [h2, q]))]; exact h4, h5, h6⟩
theorem Cur.inD {us : List V} (c : Cur na F0 H0 F H) (hD : H D = some (.lst us)) : Cur na F (upd H0 D (.lst us)) F H :=
  ⟨.refl _, fun a o n h => by
    by_cases q : a = D
    · subst q; rw [upd_same] at h; cases h; exact hD
    · rw [upd_ne q] at h; exact c.hh a o n h, c.fh, fun _ _ _ h => h, c.lv, fun a h => by
    obtain ⟨o, ho⟩ := c.nz a h
    by_cases q : a = D
    · subst q; exact ⟨_, upd_same⟩
    · exact ⟨o, by rw [upd_ne q]; exact ho⟩⟩
theorem Cur.outD {F' H' : Hp} {o u : HO} (c : Cur na F0 H0 F H) (c' : Cur na F (upd H0 D o) F' H') (h0 : H0 D = none) (fD : F D = none) (hn : na ≠ some D) : Cur na F0 H0 F' (upd H' D u) := by
  have f' : F' D = none := c'.pr D o upd_same fD
  refine ⟨c.ff.trans c'.ff, fun a v n h => ?_, fun a v h => ?_, fun a v h1 h2 => ?_, fun a h => ?_, c.nz⟩
  · have q : a ≠ D := fun q => by rw [q, h0] at h; cases h
    rw [upd_ne q]
    exact c'.hh a v n (by rw [upd_ne q]; exact h)
  · rw [upd_ne (ne_of_none h f')]; exact c'.fh a v h
  · have q : a ≠ D := fun q => by rw [q, h0] at h1; cases h1
    exact c'.pr a v (by rw [upd_ne q]; exact h1) (c.pr a v h1 h2)
  · obtain ⟨⟨v, hv⟩, hf⟩ := c'.lv a h
    have q : a ≠ D := fun q => hn (by rw [h, q])
    exact ⟨⟨v, by rw [upd_ne q]; exact hv⟩, hf⟩
end
theorem wipe_in {σ : L2.St} {j : Nat} : ∀ {vs : List Nat}, j ∈ vs → (wipe σ vs)[j]? = (σ[j]?).map fun _ => none
  | v :: vs, h => by
    unfold wipe
    by_cases q : v = j
    · subst q
      rw [List.getElem?_set_self']
      by_cases hv : v ∈ vs
      · rw [wipe_in hv]; cases σ[v]? <;> rfl
      · rw [wipe_out hv]; cases σ[v]? <;> rfl
    · rw [List.getElem?_set_ne q]
      exact wipe_in ((List.mem_cons.mp h).resolve_left fun z => q z.symm)
theorem wipe_set {σ : L2.St} {i : Nat} {x : Option V} {vs : List Nat} (h : i ∈ vs) (τ : L2.St) (hτ : wipe τ vs = wipe σ vs) : wipe (τ.set i x) vs = wipe σ vs := by
  rw [← hτ]
  refine List.ext_getElem? fun j => ?_
  by_cases hj : j ∈ vs
  · rw [wipe_in hj, wipe_in hj]
    by_cases q : i = j
    · subst q
      rw [List.getElem?_set_self']
      cases τ[i]? <;> rfl
    · rw [List.getElem?_set_ne q]
  · rw [wipe_out hj, wipe_out hj]
    have q : i ≠ j := fun z => hj (z ▸ h)
    rw [List.getElem?_set_ne q]
theorem wipe_wipe {σ : L2.St} {vs : List Nat} : wipe (wipe σ vs) vs = wipe σ vs := by
  refine List.ext_getElem? fun j => ?_
  by_cases hj : j ∈ vs
  · rw [wipe_in hj, wipe_in hj]; cases σ[j]? <;> rfl
  · rw [wipe_out hj]

/-- a target within a block whose own names are at vs -/
structure TgB (K : PySem.W.Frag) (g : TG) (vs : List Nat) (d : Dat) (ρ : List Sl) (Q : List Sl → Prop) : Prop where
  run : ∀ (σ τ : L2.St) (na : Option Addr) (F0 H0 F H : Hp) (v : V) (D : L2.St → Hp → Prop), wipe τ vs = wipe σ vs → Cur na F0 H0 F H → Env1 K ρ τ na H0 F H → Is K d v F → (∀ ρ' σ', wipe σ' vs = wipe σ vs → Env1 K ρ' σ' na H0 F H → Q ρ' → D σ' H) → g v τ H D
theorem tb_name {K : PySem.W.Frag} (i : Nat) {vs : List Nat} {d : Dat} {ρ : List Sl} {Q : List Sl → Prop} (hi : i ∈ vs) (h : Q (ρ.set i (.pu d))) : TgB K (gName i) vs d ρ Q :=
  ⟨fun σ τ na F0 H0 F H v D e c n hd q => q _ _ (wipe_set hi τ e) (n.set hd) h⟩
theorem gnb_run {K : PySem.W.Frag} {vs : List Nat} {σ : L2.St} {na : Option Addr} {F0 H0 F H : Hp} {D : L2.St → Hp → Prop} : ∀ {is : List Nat} {ds : List Dat} {ρ : List Sl} {ws : List V} {τ : L2.St}, is.length = ds.length → (∀ i ∈ is, i ∈ vs) → wipe τ vs = wipe σ vs → Cur na F0 H0 F H → Env1 K ρ τ na H0 F H → Isl K ds ws F →
    (∀ σ', wipe σ' vs = wipe σ vs → Env1 K (setNs is ds ρ) σ' na H0 F H → D σ' H) → gNs is ws τ H D
  | [], [], _, _, _, _, _, e, c, n, hd, q => by cases hd; exact ⟨rfl, q _ e n⟩
  | [], _ :: _, _, _, _, h, _, _, _, _, _, _ => by cases h
  | _ :: _, [], _, _, _, h, _, _, _, _, _, _ => by cases h
  | i :: is, d :: ds, ρ, ws, τ, h, hi, e, c, n, hd, q => by
    cases hd with
    | cons h1 h2 => exact ⟨_, _, rfl, gnb_run (by simpa using h) (fun j z => hi j (List.mem_cons_of_mem _ z)) (wipe_set (hi _ List.mem_cons_self) τ e) c (n.set h1) h2 q⟩
theorem tb_tup {K : PySem.W.Frag} {vs is : List Nat} {ds : List Dat} {ρ : List Sl} {Q : List Sl → Prop} {N : Nat} (hl : ds.length = N) (hi : is.length = ds.length) (hv : ∀ i ∈ is, i ∈ vs) (h : Q (setNs is ds ρ)) : TgB K (gTup K N (gNs is)) vs (.tup ds) ρ Q :=
  ⟨fun σ τ na F0 H0 F H v D e c n hd q => by
    cases hd with
    | tup ha hs => exact ⟨_, _, rfl, c.fh.sqt ha, by rw [← hs.length, hl], gnb_run hi hv e c n hs fun σ' e' n' => q _ σ' e' n' h⟩⟩

abbrev W0 : WX := fun _ _ _ _ => False
abbrev R0 : RX := fun _ _ => False
theorem takesW {X : Cx} : Takes X W0 := fun u s' ⟨_, _, _, _, _, _, _, _, _, _, _, _, _, _, _, _, w⟩ => w.elim
section
variable {X : Cx} {W : WX} {R : RX} {e a b c o elt tg iter : Expr} {es : List Expr} {st : Stmt} {sts rest body : List Stmt} {ρ : List Sl} {P : PD} {k : Kn} {pos pos' p apos : Pos} {x m : Str} {l : Nat} {dd : List V} {s : DSp} {scope : Scope} {own : List (Str × Nat)} {g : TG}
/-- an item's reading, in whatever block -/
def tUb (X : Cx) (scope : Scope) (elt : Expr) : TE := fun σ H Q => ∃ ρ P na F0 H0 F, (∀ (s : Shared) (H : Hp) (C : Addr) (cl : List (Str × Addr)) (fp : List Addr), WE (X.blk s H scope (compEnvC scope cl C X.env) fp) W0 R0 elt ρ P) ∧ Cur na F0 H0 F H ∧ Env1 X.K ρ σ na H0 F H ∧
  ∀ d v ρ' F' H', Cur na F0 H0 F' H' → Env1 X.K ρ' σ na H0 F' H' → Is X.K d v F' → P d ρ' → Q v H'
theorem pe_Ub (s : Shared) (H : Hp) (C : Addr) (cl : List (Str × Addr)) (fp : List Addr) : PE (X.blk s H scope (compEnvC scope cl C X.env) fp) elt (tUb X scope elt) :=
  ⟨fun pins s σ H Q I ⟨ρ, P, na, F0, H0, F, w, c, n, q⟩ => (w _ _ _ _ _).run pins s σ na F0 H0 F H Q I c n (fun _ _ _ _ _ _ _ z => z.elim) q⟩
/-- a clause's tests: none or one -/
def WTs (X : Cx) (W : WX) (R : RX) : List Expr → List Sl → (Bool → List Sl → Prop) → Prop
  | [], ρ, P => P true ρ
  | [c], ρ, P => WT X W R c ρ P
  | _, _, _ => False
def tUTb (X : Cx) (scope : Scope) (ifs : List Expr) : TT := fun σ H Q => ∃ ρ P na F0 H0 F, (∀ (s : Shared) (H : Hp) (C : Addr) (cl : List (Str × Addr)) (fp : List Addr), WTs (X.blk s H scope (compEnvC scope cl C X.env) fp) W0 R0 ifs ρ P) ∧ Cur na F0 H0 F H ∧ Env1 X.K ρ σ na H0 F H ∧
  ∀ b ρ' F' H', Cur na F0 H0 F' H' → Env1 X.K ρ' σ na H0 F' H' → P b ρ' → Q b H'
theorem pt_Ub {ifs : List Expr} (hl : ifs.length ≤ 1) (s : Shared) (H : Hp) (C : Addr) (cl : List (Str × Addr)) (fp : List Addr) : PTs (X.blk s H scope (compEnvC scope cl C X.env) fp) ifs (tUTb X scope ifs) := by
  match ifs, hl with
  | [], _ => exact ⟨fun pins s0 σ H0 Q I ⟨ρ, P, na, F0, H1, F, w, c, n, q⟩ => pts_nil.run pins s0 σ H0 Q I (q true ρ F H0 c n (w s H C cl fp))⟩
  | [cnd], _ => exact pts_one ⟨fun pins s σ H Q I ⟨ρ, P, na, F0, H0, F, w, c, n, q⟩ => WT.run (w _ _ _ _ _) pins s σ na F0 H0 F H Q I c n (fun _ _ _ _ _ _ _ z => z.elim) q⟩
/-- the items of a comprehension, one by one: Iv by the turn, what is made so far, and the slots at the turn's start -/
structure LcI (X : Cx) (scope : Scope) (vs : List Nat) (elt : Expr) (ifs : List Expr) (g : TG) (ρ0 : List Sl) (ds : List Dat) (P : List Dat → List Sl → Prop) : Prop where
  ex : ∃ Iv : Nat → List Dat → List Sl → Prop, Iv 0 [] (wip ρ0 vs) ∧ (∀ j d' acc ρ, ds[j]? = some d' → Iv j acc ρ → TgB X.K g vs d' ρ fun ρ2 =>
    ∀ (s : Shared) (H : Hp) (C : Addr) (cl : List (Str × Addr)) (fp : List Addr), WTs (X.blk s H scope (compEnvC scope cl C X.env) fp) W0 R0 ifs ρ2 fun t ρ3 =>
      (t = true → ∀ (s : Shared) (H : Hp) (C : Addr) (cl : List (Str × Addr)) (fp : List Addr), WE (X.blk s H scope (compEnvC scope cl C X.env) fp) W0 R0 elt ρ3 fun y ρ4 => Iv (j + 1) (acc ++ [y]) (wip ρ4 vs)) ∧ (t = false → Iv (j + 1) acc (wip ρ3 vs))) ∧
    ∀ acc ρ, Iv ds.length acc ρ → P acc (bak ρ0 ρ vs)
  le : ds.length ≤ 100000
structure LcP (K : PySem.W.Frag) (σ : L2.St) (vs : List Nat) (na : Option Addr) (F0 H0 F1 : Hp) (D : Addr) (Iv : Nat → List Dat → List Sl → Prop) (j : Nat) (H : Hp) : Prop where
  ex : ∃ F acc us ρ, Cur na F0 H0 F H ∧ Env1 K ρ (wipe σ vs) na H0 F H ∧ Ex F1 F ∧ F D = none ∧ H D = some (.lst us) ∧ Isl K acc us F ∧ acc.length ≤ j ∧ Iv j acc ρ ∧ NotAt ρ (wipe σ vs) D
/-- D is fresh -/
structure Fr0 (na : Option Addr) (H0 H1 : Hp) (D : Addr) : Prop where
  h1 : H1 D = none
  h0 : H0 D = none
  nn : na ≠ some D
theorem fr0 {na : Option Addr} {F0 H0 F1 H1 : Hp} {D : Addr} (c : Cur na F0 H0 F1 H1) (hD : H1 D = none) : Fr0 na H0 H1 D :=
  ⟨hD, not_there c hD, fun z => by
    obtain ⟨⟨o, ho⟩, _⟩ := c.lv D z
    rw [hD] at ho; cases ho⟩
theorem lcp_start {K : PySem.W.Frag} {σ : L2.St} {vs : List Nat} {na : Option Addr} {F0 H0 F1 H1 : Hp} {D : Addr} {Iv : Nat → List Dat → List Sl → Prop} {ρ0 : List Sl} (c : Cur na F0 H0 F1 H1) (n : Env1 K ρ0 σ na H0 F1 H1) (hD : H1 D = none) (i0 : Iv 0 [] (wip ρ0 vs)) : LcP K σ vs na F0 H0 F1 D Iv 0 (upd H1 D (.lst [])) := by
  have st := Stp.junk (o := .lst []) c.fh hD
  exact ⟨F1, [], [], _, c.stp st, (n.stp st).wip vs, .refl _, fnone c.fh hD, upd_same, .nil, Nat.le_refl _, i0, not_at (n.wip vs) hD⟩
theorem lcp_turn {σ : L2.St} {na : Option Addr} {F0 H0 F1 H1 H H2 : Hp} {D : Addr} {Iv : Nat → List Dat → List Sl → Prop} {j : Nat} {d' : Dat} {x : V} {vs : List Nat} {ifs : List Expr} (hj : j < 100000) (fr : Fr0 na H0 H1 D)
    (hE : ∀ acc ρ, Iv j acc ρ → TgB X.K g vs d' ρ fun ρ2 => ∀ (s : Shared) (H : Hp) (C : Addr) (cl : List (Str × Addr)) (fp : List Addr), WTs (X.blk s H scope (compEnvC scope cl C X.env) fp) W0 R0 ifs ρ2 fun t ρ3 =>
      (t = true → ∀ (s : Shared) (H : Hp) (C : Addr) (cl : List (Str × Addr)) (fp : List Addr), WE (X.blk s H scope (compEnvC scope cl C X.env) fp) W0 R0 elt ρ3 fun y ρ4 => Iv (j + 1) (acc ++ [y]) (wip ρ4 vs)) ∧ (t = false → Iv (j + 1) acc (wip ρ3 vs)))
    (hx : ∀ F', Ex F1 F' → Ex F' H → ∃ F'', Stp F' H F'' H2 ∧ Is X.K d' x F'') (p : LcP X.K σ vs na F0 H0 F1 D Iv j H) : g x (wipe σ vs) H2 fun σ2 H2 => wipe σ2 vs = wipe σ vs ∧ tUTb X scope ifs σ2 H2 fun b H3 =>
      if b = true then tUb X scope elt σ2 H3 fun y H4 => ∃ acc, H4 D = some (.lst acc) ∧ acc.length < sizeLine ∧ LcP X.K σ vs na F0 H0 F1 D Iv (j + 1) (upd H4 D (.lst (acc ++ [y]))) else LcP X.K σ vs na F0 H0 F1 D Iv (j + 1) H3 := by
  obtain ⟨Fa, acc, us, ρ, ca, na_, ffa, fDa, hDa, hia, hl, iv, nD⟩ := p.ex
  obtain ⟨F, st, hxi⟩ := hx Fa ffa ca.fh
  have c := ca.stp st
  have n := na_.stp st
  have ff := ffa.trans st.ff
  have fD : F D = none := st.pr D _ hDa fDa
  have hD : H2 D = some (.lst us) := st.hh _ _ hDa
  have hi := hia.mono st.ff
  have c0 := c.inD hD
  refine (hE acc ρ iv).run σ (wipe σ vs) na F (upd H0 D (.lst us)) F H2 x _ wipe_wipe c0 (n.inD nD) hxi fun ρ2 σ2 e2 n2 w2 => ⟨e2, ?_⟩
  refine ⟨ρ2, _, na, F, upd H0 D (.lst us), F, w2, c0, n2, fun t ρ3 F3 H3 c3 n3 wt => ?_⟩
  cases t with
  | true =>
    refine iteT ?_
    refine ⟨ρ3, _, na, F, upd H0 D (.lst us), F3, wt.1 rfl, c3, n3, fun y v ρ4 F' H' c' n' hd iv' => ?_⟩
    have hD' : H' D = some (.lst us) := c'.hh D _ fr.nn upd_same
    have hf : F' D = none := c'.pr D _ upd_same fD
    refine ⟨us, hD', ?_, F', acc ++ [y], us ++ [v], wip ρ4 vs, c.outD c' fr.h0 fD fr.nn, ?_, ff.trans c'.ff, hf, upd_same, (hi.mono c'.ff).append (.cons hd .nil), by rw [List.length_append, List.length_singleton]; omega, iv', ?_⟩
    · rw [← hi.length]; exact Nat.lt_of_le_of_lt hl (Nat.lt_trans hj (by decide))
    · have := (n'.wip vs).outD (u := .lst (us ++ [v])) fr.nn
      rw [e2] at this
      exact this
    · have := (n'.wip vs).notAt fr.nn
      rw [e2] at this
      exact this
  | false =>
    refine iteF ?_
    have hD' : H3 D = some (.lst us) := c3.hh D _ fr.nn upd_same
    have hf : F3 D = none := c3.pr D _ upd_same fD
    have cc := c.outD (u := .lst us) c3 fr.h0 fD fr.nn
    have nn := (n3.wip vs).outD (u := .lst us) fr.nn
    rw [upd_id hD'] at cc nn
    rw [e2] at nn
    refine ⟨F3, acc, us, wip ρ3 vs, cc, nn, ff.trans c3.ff, hf, hD', hi.mono c3.ff, by omega, wt.2 rfl, ?_⟩
    have := (n3.wip vs).notAt fr.nn
    rw [e2] at this
    exact this
/-- [elt for tg in iter if ..]: a new list -/
theorem wv_lc {ifs : List Expr} {PL : PV} (own : List (Str × Nat)) (hl : ifs.length ≤ 1) (hN : X.N.Nodup) (hc : X.calm = true) (ok : BlkOk X.N X.env.scope scope own) (hg : ∀ (s : Shared) (H : Hp) (C : Addr) (cl : List (Str × Addr)) (fp : List Addr), PG (X.blk s H scope (compEnvC scope cl C X.env) fp) tg g)
    (h : WI X W R tg iter ρ fun ds ρ0 => LcI X scope (own.map (·.2)) elt ifs g ρ0 ds fun acc ρ' => PL (.fr acc) ρ') (hs : ∀ x, foldedSetIterable iter X.env x = pure x := by intro _; rfl) : WV X W R (.ListComp elt [⟨tg, iter, ifs, 0⟩] scope pos) ρ PL :=
  .of (pe_lc hc hN (pi_U (W := W)) ok hg (pt_Ub hl) pe_Ub hs) fun σ na F0 H0 F H Q c n xo q => ⟨ρ, _, R, na, F0, H0, F, h, c, n, xo, fun J ds ρ0 F1 H1 c1 n1 hJ hh => by
    intro D hD
    obtain ⟨Iv, i0, ih, ie⟩ := hh.ex
    have fr := fr0 c1 hD
    refine ⟨fun j m H' => m = ds.length - j ∧ j ≤ ds.length ∧ LcP X.K σ (own.map (·.2)) na F0 H0 F1 D Iv j H', ⟨ds.length, by simp, Nat.zero_le _, lcp_start c1 n1 hD i0⟩, ?_⟩
    rintro j m H' ⟨rfl, hj, p⟩
    have ex : Ex F1 H' := by
      obtain ⟨F2, acc, us, ρ2, c2, n2, ff, _⟩ := p.ex
      exact ff.trans c2.fh
    by_cases hlt : j < ds.length
    · refine .inr ⟨hJ.go j H' hlt ex, fun H2 => LcP X.K σ (own.map (·.2)) na F0 H0 F1 D Iv (j + 1) H2, fun H2 p2 => ⟨_, by omega, rfl, hlt, p2⟩, fun x H2 hy => ?_⟩
      have hd : ds[j]? = some ds[j] := List.getElem?_eq_getElem hlt
      exact lcp_turn (Nat.lt_of_lt_of_le hlt hh.le) fr (fun acc ρ2 iv => ih j _ acc ρ2 hd iv) (fun F' e1 e2 => hJ.yld j _ F' H' x H2 hd e1 e2 hy) p
    · have e : j = ds.length := by omega
      subst e
      obtain ⟨F2, acc, us, ρ2, c2, n2, ff, fD, hDD, hi, hl2, iv, nD⟩ := p.ex
      refine .inl ⟨hJ.stop H' ex, ?_⟩
      have nb := n1.bak (vs := own.map (·.2)) ff n2
      refine q (.fr acc) (.ref D) (bak ρ0 ρ2 (own.map (·.2))) F2 H' c2 nb (.fr fr.h0 fD hDD hi fun i l es hi' z => ?_) (ie acc ρ2 iv)
      rcases bak_some hi' with ⟨_, z1 | ⟨d, z1, _⟩⟩ | ⟨z1, z2⟩
      · cases z1
      · cases z1
      · exact nD i l es z1 (by rw [wipe_out z2]; exact z)⟩
/-- y = e for whatever gives a new list or a datum -/
theorem ws_setV (i : Nat) {y : Str} (hNd : X.N.Nodup) (h : WV X W R e ρ fun r ρ' => match r with | .pu d => k.nx (ρ'.set i (.pu d)) | .fr ds => k.nx (ρ'.set i (.ow false ds))) (hi : X.N[i]? = some y := by rfl) (hx : Loc X.env.scope y := by first | exact Or.inl rfl | exact Or.inr rfl)
    (hs : swapsWith e (some (.Name y pos')) pos.line X.env = pure false := by rfl) (hf : X.fn y = true ∨ X.env.scope.names.lookup y = some .local := by first | exact .inl rfl | exact .inr rfl | assumption) : WS X W R (.Assign [.Name y pos'] e pos) ρ k :=
  .of (ps_set hNd hi hx (pe_V (W := W)) hs hf) fun σ na F0 H0 F H D c n xo q => ⟨ρ, _, R, na, F0, H0, F, h, c, n, xo, fun r v ρ' F' H' c' n' hr p => by
    cases hr with
    | pu hd => exact q.nx _ _ F' H' c' (n'.set hd) p
    | fr h0 hf' hh hs' hn => exact q.nx _ _ F' H' c' (n'.setO hf' hh hs' h0 fun j l' ds' b hj hb z => hn j l' ds' hj (by rw [hb, z])) p⟩
/-- .. for a comprehension on one line, the name a local -/
theorem ws_setLcV (i : Nat) {y : Str} {py spos : Pos} {ifs : List Expr} (own : List (Str × Nat)) (hl : ifs.length ≤ 1) (hN : X.N.Nodup) (hc : X.calm = true) (ok : BlkOk X.N X.env.scope scope own) (hg : ∀ (s : Shared) (H : Hp) (C : Addr) (cl : List (Str × Addr)) (fp : List Addr), PG (X.blk s H scope (compEnvC scope cl C X.env) fp) tg g)
    (h : WI X W R tg iter ρ fun ds ρ0 => LcI X scope (own.map (·.2)) elt ifs g ρ0 ds fun acc ρ' => k.nx (ρ'.set i (.ow false acc))) (hsw : swapsWith (.ListComp elt [⟨tg, iter, ifs, 0⟩] scope pos) (some (.Name y py)) spos.line X.env = pure true)
    (hy : X.N[i]? = some y := by rfl) (hyl : X.env.scope.names.lookup y = some .local := by rfl) (hs : ∀ x, foldedSetIterable iter X.env x = pure x := by intro _; rfl) : WS X W R (.Assign [.Name y py] (.ListComp elt [⟨tg, iter, ifs, 0⟩] scope pos) spos) ρ k :=
  .of (ps_setLc hc hN hy hyl hsw (pi_U (W := W)) ok hg (pt_Ub hl) pe_Ub hs) fun σ na F0 H0 F H Dn c n xo q => ⟨ρ, _, R, na, F0, H0, F, h, c, n, xo, fun J ds ρ0 F1 H1 c1 n1 hJ hh => by
    intro D hD
    obtain ⟨Iv, i0, ih, ie⟩ := hh.ex
    have fr := fr0 c1 hD
    refine ⟨fun j m H' => m = ds.length - j ∧ j ≤ ds.length ∧ LcP X.K σ (own.map (·.2)) na F0 H0 F1 D Iv j H', ⟨ds.length, by simp, Nat.zero_le _, lcp_start c1 n1 hD i0⟩, ?_⟩
    rintro j m H' ⟨rfl, hj, p⟩
    have ex : Ex F1 H' := by
      obtain ⟨F2, acc, us, ρ2, c2, n2, ff, _⟩ := p.ex
      exact ff.trans c2.fh
    by_cases hlt : j < ds.length
    · refine .inr ⟨hJ.go j H' hlt ex, fun H2 => LcP X.K σ (own.map (·.2)) na F0 H0 F1 D Iv (j + 1) H2, fun H2 p2 => ⟨_, by omega, rfl, hlt, p2⟩, fun x H2 hy => ?_⟩
      have hd : ds[j]? = some ds[j] := List.getElem?_eq_getElem hlt
      exact lcp_turn (Nat.lt_of_lt_of_le hlt hh.le) fr (fun acc ρ2 iv => ih j _ acc ρ2 hd iv) (fun F' e1 e2 => hJ.yld j _ F' H' x H2 hd e1 e2 hy) p
    · have e : j = ds.length := by omega
      subst e
      obtain ⟨F2, acc, us, ρ2, c2, n2, ff, fD, hDD, hi, hl2, iv, nD⟩ := p.ex
      refine .inl ⟨hJ.stop H' ex, ?_⟩
      have nb := n1.bak (vs := own.map (·.2)) ff n2
      have nz : NotAt (bak ρ0 ρ2 (own.map (·.2))) σ D := fun i l es hi' z => by
        rcases bak_some hi' with ⟨_, z1 | ⟨d, z1, _⟩⟩ | ⟨z1, z2⟩
        · cases z1
        · cases z1
        · exact nD i l es z1 (by rw [wipe_out z2]; exact z)
      exact q.nx _ _ F2 H' c2 (nb.setO fD hDD hi fr.h0 fun j l' ds' b hj hb z => nz j l' ds' hj (by rw [hb, z])) (ie acc ρ2 iv)⟩
end
end Sf
namespace Sf
open PySem L2
theorem Env1.setX {K : PySem.W.Frag} {ρ : List Sl} {σ : L2.St} {na : Option Addr} {H0 F H : Hp} (e : Env1 K ρ σ na H0 F H) (i : Nat) (x : Option V) : Env1 K (ρ.set i .no) (σ.set i x) na H0 F H := by
  have other : ∀ {j : Nat} {t : Sl}, (ρ.set i .no)[j]? = some t → t ≠ .no → i ≠ j ∧ ρ[j]? = some t := fun {j t} h hn => by
    by_cases q : i = j
    · subst q
      by_cases hl : i < ρ.length
      · rw [List.getElem?_set_self hl] at h
        exact absurd (Option.some.inj h).symm hn
      · rw [List.getElem?_eq_none (by rw [List.length_set]; omega)] at h
        cases h
    · rw [List.getElem?_set_ne q] at h
      exact ⟨q, h⟩
  have σo : ∀ {j : Nat} {y : Option V}, i ≠ j → ((σ.set i x)[j]? = some y ↔ σ[j]? = some y) := fun {j y} q => by rw [List.getElem?_set_ne q]
  refine ⟨fun j d h => ?_, fun j l ds h => ?_, fun j C ks ds h => ?_, fun j k l m ds es a h1 h2 h3 h4 => ?_, fun j k C D ks ls ds es h1 h2 => ?_, by rw [List.length_set, List.length_set]; exact e.ln⟩
  · obtain ⟨q, h⟩ := other h (fun z => nomatch z)
    obtain ⟨v, h1, h2⟩ := e.pu j d h
    exact ⟨v, (σo q).mpr h1, h2⟩
  · obtain ⟨q, h⟩ := other h (fun z => nomatch z)
    obtain ⟨a, vs, h1, h2⟩ := e.ow j l ds h
    exact ⟨a, vs, (σo q).mpr h1, h2⟩
  · obtain ⟨q, h⟩ := other h (fun z => nomatch z)
    obtain ⟨a, dx, vs, h1, h2⟩ := e.ob j C ks ds h
    exact ⟨a, dx, vs, (σo q).mpr h1, h2⟩
  · obtain ⟨q1, h1⟩ := other h1 (fun z => nomatch z)
    obtain ⟨q2, h2⟩ := other h2 (fun z => nomatch z)
    exact e.ap j k l m ds es a h1 h2 ((σo q1).mp h3) ((σo q2).mp h4)
  · obtain ⟨q1, h1⟩ := other h1 (fun z => nomatch z)
    obtain ⟨q2, h2⟩ := other h2 (fun z => nomatch z)
    exact e.ao j k C D ks ls ds es h1 h2
/-- the wish of the body of a try whose suite returns a field of the error -/
def rTryF (X : Cx) (R : RX) (x f : Str) (i : Nat) (k : Kn) : RX := fun z ρ => ∃ t, PySem.W.exmOne X.K (.ref (He.ga X.K z.cls)) (.ref (He.ga X.K x)) = some t ∧
  (t = true → z.cls = x ∧ z.ks ≠ [] ∧ i < ρ.length ∧ ∃ d, look z.ks z.ds f = some d ∧ k.rt (.pu d) (ρ.set i .no)) ∧ (t = false → R z ρ)
theorem ws_try_as {X : Cx} {W : WX} {R : RX} {ρ : List Sl} {k : Kn} {body : List Stmt} {x n f : Str} {np pe pa pr pos pos' : Pos} {i : Nat} (hs : X.stack = X.env :: X.outer) (hf : X.env.frame = some X.env.locals) (hN : X.N.Nodup) (hi : X.N[i]? = some n)
    (hln : X.env.kindOf n = some .local) (hc : Names X x (.ref (He.ga X.K x))) (tk : Takes X W) (T : XfC X.K (He.ga X.K x)) (hno : PySem.W.findIn X.K (.ref (He.ga X.K x)) f = some none) (hv : Vis X.env.scope n) (hd : (n == ("__debug__" : Str)) = false) (hcd : (n == ("__classdict__" : Str)) = false)
    (hb : ∀ (W' : WX) (pn : List (Addr × Obj)) (xe : Value → Shared → Prop), Takes (X.tr pn xe) W' → PassesOwn (model X.prog X.w) X.A X.env xe → WSs (X.tr pn xe) W' (rTryF X R x f i k) body ρ k) :
    WS X W R (.Try body [.ExceptHandler (some (.Name x np)) (some n) [.Return (some (.Attribute (.Name n pe) f pa)) pr] pos'] [] [] pos) ρ k := by
  let ts : Addr → Value → Option Addr → TS := fun a cls d => tSeq (tRet (tXf a cls d (He.ga X.K x) f (tVar i))) tNext
  let tb : WX → TS := fun W' D σ H => ∃ na F0 H0 F, (∀ (pn : List (Addr × Obj)) (xe : Value → Shared → Prop), Takes (X.tr pn xe) W' → PassesOwn (model X.prog X.w) X.A X.env xe → WSs (X.tr pn xe) W' (rTryF X R x f i k) body ρ k) ∧ Cur na F0 H0 F H ∧ Env1 X.K ρ σ na H0 F H ∧ ExcOk X.K W' (rTryF X R x f i k) na F0 H0 ∧ KnOk X.K na F0 H0 k D
  refine .of (ps_try_as (tb := tb) (ts := ts) (Wout := W) hs hf hN hi hln hc tk (fun W' pn xe tk' hp => ⟨fun pins s0 σ H D I h => ?_⟩) (fun a oe cls d pn hz hfl => ?_)) fun σ na F0 H0 F H D c n xo q => ?_
  · obtain ⟨na, F0, H0, F, hw, c, n, xo, q⟩ := h
    exact (hw pn xe tk' hp).run pins s0 σ na F0 H0 F H D I c n xo q
  · exact pss_cons (ps_ret (pe_xf T hno hz hfl (pe_var (X := X.suite a ((a, oe) :: pn)) hi hv hd hcd))) pss_nil
  · refine ⟨na, F0, H0, F, fun pn xe t2 hp => hb _ pn xe t2 hp, c, n, fun z ρ' σ' F' H' c' n' r => ?_, q⟩
    obtain ⟨t, h1, h2, h3⟩ := r
    have yes : t = true → ∀ (d : Addr) (vs : List V), F' d = some (.xd (z.ks.zip vs)) → z.ks.length = vs.length → Isl X.K z.ds vs F' → ∀ a, H' a = none → ts a (.ref (He.ga X.K z.cls)) (some d) { nx := fun σ' H' => D.nx (σ'.set i none) H', rt := D.rt, bk := fun σ' H' => D.bk (σ'.set i none) H', ct := fun σ' H' => D.ct (σ'.set i none) H' } (σ'.set i (some (.ref a))) H' := fun ht d vs e1 e2 e3 a ha => by
      obtain ⟨ec, hne, hl, dd, hl1, hk⟩ := h2 ht
      obtain ⟨v, l1, l2⟩ := look_v e3 hl1
      refine ⟨.ref a, ?_, rfl, by rw [ec], d, _, v, rfl, c'.fh _ _ e1, l1, ?_⟩
      · rw [List.getElem?_set_self (by rw [← n'.ln]; exact hl)]
      · exact q.rt (.pu dd) v _ _ F' H' c' (n'.setX i (some (.ref a))) (.pu l2) hk
    refine ⟨fun e0 => ⟨t, h1, fun ht => absurd e0 (h2 ht).2.1, fun ht => (xo z ρ' σ' F' H' c' n' (h3 ht)).1 e0⟩, fun d vs e0 e1 e2 e3 => ⟨t, h1, fun ht a ha => yes ht d vs e1 e2 e3 a ha, fun ht => (xo z ρ' σ' F' H' c' n' (h3 ht)).2 d vs e0 e1 e2 e3⟩⟩
end Sf
namespace Sf
open PySem L2
/-! ### error classes with a field -/
def liftX (K : PySem.W.Frag) (C : Str) (f : Str) : Sp := fun vs H Q _ => ∃ a y, vs = [.ref a, y] ∧ H a = some (exo a (He.ga K C) none) ∧
  ∀ dx, H dx = none → dx ≠ a → Q .non (upd (upd H dx (exd dx [(f, y)])) a (exo a (He.ga K C) (some dx)))
section
variable {P : Program} {w : World} {K : PySem.W.Frag} {mg : Str → Option Value} {base : Heap} {x qual : Str} {params : Arguments} {scope : Scope} {dvs : List V} {kws : List (Str × V)} {fI : Addr} {fd : FuncData} {N ps : List Str} {k : Nat}
theorem exinit_ok {C f x0 x1 : Str} {p1 p2 p3 pos : Pos} (T : OexC K (He.ga K C)) (hno : PySem.W.findIn K (.ref (He.ga K C)) f = some none)
    (F : FunD K x qual params [.Assign [.Attribute (.Name x0 p1) f p2] (.Name x1 p3) pos] scope dvs kws fI fd) (S : FnScope N ps scope) (hl : ps.length = 2) (h0 : N[0]? = some x0) (h1 : N[1]? = some x1) (v0 : Vis scope x0) (v1 : Vis scope x1)
    (d0 : (x0 == ("__debug__" : Str)) = false) (c0 : (x0 == ("__classdict__" : Str)) = false) (d1 : (x1 == ("__debug__" : Str)) = false) (c1 : (x1 == ("__classdict__" : Str)) = false) : FnOk P w K mg base (L2.CX P w) (k + 1) fI fd ps (liftX K C f) := by
  refine F.ok S (fun vs H Q E h => ?_) (fun cdv A outer s0 H vs Q E hr h => ?_)
  · obtain ⟨a, y, rfl, _⟩ := h
    exact hl.symm
  · obtain ⟨a, y, rfl, ha, hq⟩ := h
    refine ⟨_, pss_cons (ps_ost (pe_var (X := cxB P w K mg base N qual scope fI cdv A outer s0 H E) h0 v0 d0 c0) (pe_var (X := cxB P w K mg base N qual scope fI cdv A outer s0 H E) h1 v1 d1 c1)) pss_nil, ?_⟩
    exact ⟨y, rfl, .ref a, rfl, a, _, rfl, T, hno, .inl ⟨ha, fun dx hd hne => hq dx hd hne⟩⟩
structure ExF (P : Program) (w : World) (K : PySem.W.Frag) (mg : Str → Option Value) (base : Heap) (x f : Str) (l : Nat) : Prop where
  T : OexC K (He.ga K x)
  xf : XfC K (He.ga K x)
  no : PySem.W.findIn K (.ref (He.ga K x)) f = some none
  g : mg x = some (.ref (He.ga K x))
  ex : ∃ fI fd ps, PySem.W.findIn K (.ref (He.ga K x)) "__init__" = some (some (.ref fI)) ∧ PySem.W.typeIn K (.ref fI) = some (.type "function") ∧ FnOk P w K mg base (L2.CX P w) l fI fd ps (liftX K x f) ∧ Binds K fd ps []
end
section
variable {X : Cx} {W : WX} {R : RX} {e : Expr} {ρ : List Sl} {k : Kn} {pos pos' p : Pos} {x f : Str} {l : Nat}
theorem ws_raiseF (T : ExF X.prog X.w X.K X.mg X.base x f l) (hr : Room (l + 1) X.A) (hc : X.calm = true) (tk : Takes X W) (h : WE X W R e ρ fun d ρ' => R ⟨x, [f], [d]⟩ ρ') (hg : Gl X x) (hdb : (x == ("__debug__" : Str)) = false) (hs : starEach [e] X.env = (false, eval e X.env) :: starEach [] X.env) :
    WS X W R (.Raise (some (.Call (.Name x p) [e] [] pos)) none pos') ρ k := by
  obtain ⟨fI, fd, ps, g1, g2, F, hb⟩ := T.ex
  refine .of (ps_raise hc tk (pmk_oex (e := e) (es := []) (ta := _) T.T g1 g2 F hr hb .nil (passes_call tk fun _ _ _ _ z => z.elim) hg T.g (pa_cons (pe_U (W := W)) pa_nil hs) hdb hs rfl)) fun σ na F0 H0 F H D c n xo _ => ?_
  refine ⟨ρ, _, R, na, F0, H0, F, h, c, n, xo, fun d v ρ' F' H' c' n' hd hR => ⟨by show 1 ≤ 1000; omega, fun a ha => ?_⟩⟩
  refine ⟨a, v, rfl, upd_same, fun dx hdx hne => ⟨rfl, dx, [(f, v)], upd_same, ?_, ?_, ?_⟩⟩
  · rw [upd_ne hne]; exact upd_same
  · rw [upd_ne hne] at hdx; exact hdx
  · have hdx' : H' dx = none := by rw [upd_ne hne] at hdx; exact hdx
    have eH : upd (del (upd (upd (upd H' a (exo a (He.ga X.K x) none)) dx (exd dx [(f, v)])) a (exo a (He.ga X.K x) (some dx))) a) dx (.xd [(f, v)]) = upd H' dx (.xd [(f, v)]) := by
      funext b
      by_cases q1 : b = dx
      · subst q1; rw [upd_same, upd_same]
      · rw [upd_ne q1, upd_ne q1]
        by_cases q2 : b = a
        · subst q2; rw [del_same, ha]
        · rw [del_ne q2, upd_ne q2, upd_ne q1, upd_ne q2]
    rw [eH]
    have st : Stp F' H' (upd F' dx (.xd [(f, v)])) (upd H' dx (.xd [(f, v)])) := Stp.new c'.fh hdx'
    refine (xo ⟨x, [f], [d]⟩ ρ' σ _ _ (c'.stp st) (n'.stp st) hR).2 dx [v] (fun z => nomatch z) upd_same rfl ?_
    exact .cons (hd.mono st.ff) .nil
end
end Sf
namespace Sf
open PySem L2
/-! ### != of two tuples whose items are equal one by one -/
section
open PySem.SeqAt AutoSeq1
variable {prog : Program} {w : World} {A : Around} {R : Result → Shared → Prop} {E : Value → Shared → Prop}
theorem ne_items (p q : Addr) (us vs : Array Value) (k k' : Nat) (dp dq : Option Addr) (lp lq : Array (Option Value)) (sz : us.size = vs.size) (J : Nat → Shared → Prop)
    (each : ∀ j (g1 : j < us.size) (g2 : j < vs.size) s, J j s → wpAny (model prog w) A.in1 (eqBool us[j] vs[j]) (fun r s' => r = true ∧ J (j + 1) s') (fun e s' => R (.error e) s') s)
    (done : ∀ s, J us.size s → R (.ok (.ret (.bool false))) s) {s : Shared} (hp1 : s.heap.get? p = some { cls := .type "tuple", dict := dp, data := .seq us k, slots := lp }) (hq1 : s.heap.get? q = some { cls := .type "tuple", dict := dq, data := .seq vs k', slots := lq }) (j0 : J 0 s) :
    wpAny (model prog w) A.in1 (Builtin.«tuple.__ne__» ⟨[.ref p, .ref q], []⟩) (GQ.FinOf prog w A R) (fun e s' => R (.error e) s') s := by
  have two := AutoSeq1.sub_tuple_tuple
  have zl : (us.toList.zip vs.toList).length = us.size := by simp [sz]
  have j1 := j0
  obtain ⟨hh, gg, dd, tt, oo⟩ := s
  wp_walk using wpAny_loadPart' hp1, wpAny_loadPart' hq1, wpAny_forIn_list _ (fun more b s' => b.1 = none ∧ ∃ j, more = (us.toList.zip vs.toList).drop j ∧ j ≤ us.size ∧ J j s') _
  case turn =>
    rintro ⟨y, x⟩ more b s' ⟨hb0, j, hz, hj, hJ⟩
    have lt : j < (us.toList.zip vs.toList).length := by
      rcases Nat.lt_or_ge j (us.toList.zip vs.toList).length with z | z
      · exact z
      · rw [List.drop_of_length_le z] at hz; cases hz
    have g1 : j < us.size := zl ▸ lt
    have g2 : j < vs.size := sz ▸ g1
    rw [List.drop_eq_getElem_cons lt] at hz
    injection hz with hyx hmore
    have ey : y = us[j] := by have := congrArg Prod.fst hyx; simpa using this
    have ex : x = vs[j] := by have := congrArg Prod.snd hyx; simpa using this
    subst ey ex
    refine wpAny_bind (wpAny_mono (each j g1 g2 s' hJ) (fun r s2 q2 => ?_) fun _ _ x => x)
    obtain ⟨er, q2⟩ := q2
    subst er
    wp_walk
    exact ⟨rfl, j + 1, hmore, g1, q2⟩
  case fin =>
    rintro ⟨b1, b2⟩ s' ⟨hb0, j, hz, hj, hJ⟩
    simp only at hb0
    subst hb0
    have ge : us.size ≤ j := by
      rcases Nat.lt_or_ge j (us.toList.zip vs.toList).length with z | z
      · rw [List.drop_eq_getElem_cons z] at hz; cases hz
      · exact zl ▸ z
    have ej : j = us.size := by omega
    have hR : R (.ok (.ret (.bool false))) s' := done s' (ej ▸ hJ)
    wp_walk
    simpa [Builtin.Tuple.tupleCompareSizes, sz] using hR
  case h =>
    exact ⟨rfl, 0, rfl, Nat.zero_le _, j1⟩
theorem rc_neT {p q : Addr} {us vs : Array Value} {Q : Value → Shared → Prop} {s : Shared} (sz : us.size = vs.size) (hu : A.units < cLine) (J : Nat → Shared → Prop) (hl : s.heap.IsTuple p us) (hr : s.heap.IsTuple q vs)
    (each : ∀ j (g1 : j < us.size) (g2 : j < vs.size) s, J j s → wpAny (model prog w) A.in1 (eqBool us[j] vs[j]) (fun r s' => r = true ∧ J (j + 1) s') E s)
    (done : ∀ s, J us.size s → Q (.bool false) s) (j0 : J 0 s) : wpAny (model prog w) A (richCompare .NotEq (.ref p) (.ref q)) Q E s := by
  obtain ⟨⟨c1, d1, t1, l1⟩, o1, e1, n1, f1⟩ := id hl
  obtain ⟨⟨c2, d2, t2, l2⟩, o2, e2, n2, f2⟩ := id hr
  simp only at e1 f1 e2 f2
  subst e1 f1 e2 f2
  refine wpAny_richCompare_same_room (op := .NotEq) ⟨_, o1, rfl⟩ ⟨_, o2, rfl⟩ F.slot_tuple_ne (GQ.call_here F.slot_tuple_ne ⟨_, o1, rfl⟩ F.entry_tuple_ne (F.args_tuple_ne_2 _ _) ?_) hu
  exact ne_items (R := wants (fun v s' => v ≠ .notImplemented ∧ Q v s') E) p q us vs n1 n2 d1 d2 l1 l2 sz J each (fun s' z => ⟨(fun x => nomatch x), done s' z⟩) o1 o2 j0
end
section
variable {X : Cx} {n : Nat} {D : Eqv}
theorem rcNe_tup (hD : Mon D) (h : EqG X n D) {A : Around} {pins : List (Addr × Obj)} {s : Shared} {σ : St} {H : Hp} {x y : V} {u v : Value} (sb : Sub X (n + 1) A) (I : Inv X pins σ H s) (rx : RelV x u) (ry : RelV y v) (d : DTup X.K D x y H) :
    wpAny (model X.prog X.w) A (richCompare .NotEq u v) (fun r s' => r = .bool false ∧ ∃ H', Inv X pins σ H' s' ∧ Ext H H') X.xe s := by
  obtain ⟨a, b, xs, ys, rfl, rfl, ha, hb, p⟩ := d
  cases rx
  cases ry
  obtain ⟨l1, r1, i1, _⟩ := I.tuple ha
  obtain ⟨l2, r2, i2, _⟩ := I.tuple hb
  have sz : l1.toArray.size = l2.toArray.size := by rw [List.size_toArray, List.size_toArray, ← r1.length, ← r2.length]; exact p.1
  exact rc_neT sz sb.room.units0 (fun _ s' => LoopI X pins σ H s') i1 i2 (fun i h1 h2 s' q => turnG hD h sb p r1 r2 i h1 h2 s' q) (fun s' q => ⟨rfl, q⟩) ⟨H, I, Ext.rfl'⟩
end

/-! ### data that are equal, as the program's own == says -/
structure EqW (X : Cx) (j : Nat) (d e : Dat) : Prop where
  ex : ∃ (D : Eqv) (n : Nat), Mon D ∧ EqG X n D ∧ Room (n + j) X.A ∧ ∀ x y F H, Ex F H → Is X.K d x F → Is X.K e y F → D x y H
section
variable {X : Cx} {W : WX} {R : RX} {ρ : List Sl} {P : PD} {j : Nat}
theorem eqWs (r : Room j X.A) : ∀ {ds es : List Dat}, ds.length = es.length → (∀ p ∈ ds.zip es, EqW X j p.1 p.2) → ∃ (D : Eqv) (n : Nat), Mon D ∧ EqG X n D ∧ Room (n + j) X.A ∧ ∀ xs ys F H, Ex F H → Isl X.K ds xs F → Isl X.K es ys F → Prs D xs ys H
  | [], [], _, _ => ⟨fun _ _ _ => False, 0, fun _ _ _ _ _ h => h, eqG_flat.imp fun _ _ _ h => h.elim, by rw [Nat.zero_add]; exact r, fun xs ys F H _ h1 h2 => by cases h1; cases h2; exact Prs.nil⟩
  | [], _ :: _, h, _ => nomatch h
  | _ :: _, [], h, _ => nomatch h
  | d :: ds, e :: es, hl, h => by
    obtain ⟨D2, n2, m2, g2, r2, w2⟩ := eqWs r (ds := ds) (es := es) (by simpa using hl) fun p hp => h p (List.mem_cons_of_mem _ hp)
    obtain ⟨D1, n1, m1, g1, r1, w1⟩ := (h (d, e) List.mem_cons_self).ex
    refine ⟨fun x y H => D1 x y H ∨ D2 x y H, max n1 n2, m1.or m2, (g1.mono (Nat.le_max_left _ _)).or (g2.mono (Nat.le_max_right _ _)), ?_, fun xs ys F H ef h1 h2 => ?_⟩
    · rcases Nat.le_total n1 n2 with q | q
      · rw [Nat.max_eq_right q]; exact r2
      · rw [Nat.max_eq_left q]; exact r1
    · cases h1 with
      | cons a1 b1 => cases h2 with
        | cons a2 b2 =>
          have p := w2 _ _ F H ef b1 b2
          exact Prs.cons (.inl (w1 _ _ F H ef a1 a2)) ⟨p.1, fun i x y z1 z2 => .inr (p.2 i x y z1 z2)⟩
theorem eqW_tup (r : Room (j + 1) X.A) {ds es : List Dat} (hl : ds.length = es.length) (h : ∀ p ∈ ds.zip es, EqW X (j + 1) p.1 p.2) : EqW X j (.tup ds) (.tup es) := by
  obtain ⟨D, n, m, g, r, w⟩ := eqWs r hl h
  refine ⟨DTup X.K D, n + 1, mon_tup m, eqG_tup m g, by rw [Nat.add_assoc, Nat.add_comm 1 j]; exact r, fun x y F H ef h1 h2 => ?_⟩
  cases h1 with
  | tup a1 b1 => cases h2 with
    | tup a2 b2 => exact ⟨_, _, _, _, rfl, rfl, ef.sqt a1, ef.sqt a2, w _ _ F H ef b1 b2⟩
theorem eqW_v {x y : V} (r : Room j X.A) (fx : flatV x = true) (fy : flatV y = true) (h : eqV x y = true) : EqW X j (.v x) (.v y) :=
  ⟨DFlat, 0, mon_flat, eqG_flat, by rw [Nat.zero_add]; exact r, fun a b F H _ h1 h2 => by cases is_v h1; cases is_v h2; exact ⟨fx, fy, h⟩⟩
theorem eqW_ins {C : Str} {ks ls : List Str} {fs gs : List Dat} {l : Nat} {s : DSp} (tk : Takes X W) (G : Mg X.prog X.w X.K X.mg X.base (He.ga X.K C) "__eq__" l [] s) (hr : Room (l + j) X.A) (hs : s [.ins C ks fs, .ins C ls gs] (fun r => r = .pu (dB true)) fun _ => False) : EqW X j (.ins C ks fs) (.ins C ls gs) := by
  obtain ⟨f, fd, ps, ds, F, M, hb, hd⟩ := G.ex
  cases hd
  let Rl : Addr → Addr → Hp → Prop := fun a b H => ∃ F, Ex F H ∧ Is X.K (.ins C ks fs) (.ref a) F ∧ Is X.K (.ins C ls gs) (.ref b) F
  have hR : ∀ a b H H', Ext H H' → Rl a b H → Rl a b H' := fun a b H H' e ⟨F, ef, h1, h2⟩ => ⟨F, ef.trans e, h1, h2⟩
  refine ⟨DIns (He.ga X.K C) Rl, l, mon_ins hR, eqG_ins (F.imp fun vs H Q E h => ?_) M.at_ M.fn hb (passes_call (E := fun _ _ _ => False) tk fun _ _ _ _ (z : False) => z.elim), hr, fun x y F H ef h1 h2 => ?_⟩
  · obtain ⟨a, b, rfl, ⟨F0, ef, h1, h2⟩, hq⟩ := h
    exact ⟨F0, _, _, _, ef, .cons h1 (.cons h2 .nil), hs, fun r v F' H' st hv e => by subst e; cases hv with | pu hv => cases is_v hv; exact hq H' st.hh, fun _ _ _ _ z => z.elim⟩
  · cases h1 with
    | ins a1 l1 b1 => cases h2 with
      | ins a2 l2 b2 => exact ⟨_, _, _, _, _, _, rfl, rfl, ef _ _ a1, ef _ _ a2, F, ef, .ins a1 l1 b1, .ins a2 l2 b2⟩
theorem od_eqT {ds es : List Dat} (r : Room 1 X.A) (hl : ds.length = es.length) (h : ∀ p ∈ ds.zip es, EqW X 1 p.1 p.2) (p : P (dB true) ρ) : OpD X W R (compareOp .Eq) (.tup ds) (.tup es) ρ P := by
  obtain ⟨D, n, m, g, r, w⟩ := eqWs r hl h
  refine .of (op_eqG (rcG_tup m g) r) fun x' y' F H Q e h1 h2 q => ?_
  cases h1 with
  | tup a1 b1 => cases h2 with
    | tup a2 b2 => exact ⟨⟨_, _, _, _, rfl, rfl, e.sqt a1, e.sqt a2, w _ _ F H e b1 b2⟩, fun H' x => q _ _ F H' ⟨.refl _, x, e.trans x, fun _ _ _ z => z⟩ .v p⟩
theorem op_neT {n : Nat} {D : Eqv} (m : Mon D) (g : EqG X n D) (r : Room (n + 1) X.A) : OpR X (compareOp .NotEq) (fun x y H Q => DTup X.K D x y H ∧ ∀ H', Ext H H' → Q (.bl false) H') := by
  intro pins s σ H x y v u Q I rx ry ⟨d, q⟩
  show wpAny (model X.prog X.w) X.A (richCompare .NotEq v u) (EP X pins σ Q) X.xe s
  refine wpAny_mono (rcNe_tup m g ⟨r, rfl⟩ I rx ry d) (fun r s' z => ?_) fun _ _ x => x
  obtain ⟨er, H', I', e⟩ := z
  subst er
  exact ⟨.bl false, H', I', rfl, q H' e⟩
theorem od_neT {ds es : List Dat} (r : Room 1 X.A) (hl : ds.length = es.length) (h : ∀ p ∈ ds.zip es, EqW X 1 p.1 p.2) (p : P (dB false) ρ) : OpD X W R (compareOp .NotEq) (.tup ds) (.tup es) ρ P := by
  obtain ⟨D, n, m, g, r, w⟩ := eqWs r hl h
  refine .of (op_neT m g r) fun x' y' F H Q e h1 h2 q => ?_
  cases h1 with
  | tup a1 b1 => cases h2 with
    | tup a2 b2 => exact ⟨⟨_, _, _, _, rfl, rfl, e.sqt a1, e.sqt a2, w _ _ F H e b1 b2⟩, fun H' x => q _ _ F H' ⟨.refl _, x, e.trans x, fun _ _ _ z => z⟩ .v p⟩
/-! ### x in a list or tuple of flat items -/
def flatD : Dat → Bool
  | .v x => flatV x
  | _ => false
def memD (x : V) (ds : List Dat) : Bool := ds.any fun d => match d with
  | .v y => eqV y x
  | _ => false
theorem isl_flat {K : PySem.W.Frag} {F : Hp} {x : V} : ∀ {ds : List Dat} {vs : List V}, Isl K ds vs F → ds.all flatD = true → vs.all flatV = true ∧ inV x vs = memD x ds
  | [], _, h, _ => by cases h; exact ⟨rfl, rfl⟩
  | d :: ds, _, h, hf => by
    obtain ⟨f1, f2⟩ := Bool.and_eq_true_iff.mp hf
    cases h with
    | cons a b =>
      obtain ⟨g1, g2⟩ := isl_flat (x := x) b f2
      cases d with
      | v y =>
        cases is_v a
        refine ⟨by rw [List.all_cons, g1]; exact Bool.and_eq_true_iff.mpr ⟨f1, rfl⟩, ?_⟩
        show (_ || inV x _) = (_ || memD x ds)
        rw [g2]
      | _ => cases f1
theorem od_in {x : V} {d : Dat} {es : List Dat} (fx : flatV x = true) (hs : SeqD d es) (hf : es.all flatD = true) (p : P (dB (memD x es)) ρ) : OpD X W R (compareOp .In) (.v x) d ρ P :=
  .of op_in_seq fun x' y' F H Q e h1 h2 q => by
    cases is_v h1
    obtain ⟨a, vs, ey, hq, hi⟩ := hs.sq e h2
    obtain ⟨g1, g2⟩ := isl_flat (x := x) hi hf
    refine ⟨a, vs, ey, hq, fx, g1, ?_⟩
    show Q (.bl (inV x vs)) H
    rw [g2]
    exact q _ _ F H (.refl e) .v p
end
end Sf
namespace Sf
open PySem PySem.Spec PyProof.Rows L2
open AutoSeq1 (wpAny_loadPart')
/-! ### enumerate of a tuple -/
theorem meets_enumT (l : Addr) (items : Array Value) :
    Meets (Builtin.«enumerate.__new__» ⟨[.type "enumerate", .ref l], []⟩) (fun _ R s => s.heap.IsTuple l items ∧
      R (.ok (.ret (.ref (s.heap.push { cls := .type "tuple_iterator", data := .fields #[.ref l, .int 0 0] }).objs.size)))
        { s with heap := (s.heap.push { cls := .type "tuple_iterator", data := .fields #[.ref l, .int 0 0] }).push { cls := .type "enumerate", data := .fields #[.none, .bool false, .ref s.heap.objs.size, rawInt 0, .none, .none] } }) :=
  .of_wp fun prog w A R s h => by
    obtain ⟨hp, g, d, tk, os⟩ := s; obtain ⟨hl, h⟩ := h
    have hsub := sub_enumerate
    have hL : Heap.IsTuple (Shared.heap ⟨hp, g, d, tk, os⟩) l items := hl
    obtain ⟨⟨c, dct, dt, sl⟩, ho, hc, n, hd⟩ := id hL
    replace hc : c = .type "tuple" := hc
    replace hd : dt = .seq items n := hd
    subst hc hd
    wp_walk using wpAny_loadPart' ho
    refine wpAny_stack_any fun st => wpAny_pure ?_
    split
    · rename_i c _ _ _ _ _
      cases (c == Value.type "enumerate")
      · wp_walk using wpAny_loadPart' ho, wpAny_pyIter_tuple hL
        exact ⟨_, rfl, h⟩
      · wp_walk using wpAny_loadPart' ho, wpAny_pyIter_tuple hL
        exact ⟨_, rfl, h⟩
    · wp_walk using wpAny_loadPart' ho, wpAny_pyIter_tuple hL
      exact ⟨_, rfl, h⟩
section
variable {prog : Program} {w : World} {A : Around} {E : Value → Shared → Prop} {s : Shared}
theorem call_enumT {l : Addr} {items : Array Value} {Q : Value → Shared → Prop} (hL : s.heap.IsTuple l items)
    (h : ∀ h', IsEnum h' (s.heap.objs.size + 1) s.heap.objs.size 0 .none → h'.IsTupleIter s.heap.objs.size l 0 → h'.objs.size = s.heap.objs.size + 2 →
      (∀ b o, s.heap.get? b = some o → h'.get? b = some o) → Q (.ref (s.heap.objs.size + 1)) { s with heap := h' }) :
    wpAny (model prog w) A (call (.type "enumerate") [.ref l]) Q E s := by
  refine callType_new F.called_enumerate (by decide) (F.typeCall_enumerate_1 _) (F.newCall_enumerate_1 _) (fun obj => F.args_object_init_2 obj _) F.entry_enumerate_new
    (meets_enumT l items) ⟨hL, ?_⟩
  have hz : (s.heap.push { cls := .type "tuple_iterator", data := .fields #[.ref l, .int 0 0] }).objs.size = s.heap.objs.size + 1 := Heap.size_push ..
  show _ ∧ _
  rw [hz]
  have he : IsEnum ((s.heap.push { cls := .type "tuple_iterator", data := .fields #[.ref l, .int 0 0] }).push
      { cls := .type "enumerate", data := .fields #[.none, .bool false, .ref s.heap.objs.size, rawInt 0, .none, .none] }) (s.heap.objs.size + 1) s.heap.objs.size 0 .none := by
    have := Heap.get?_push_size (s.heap.push { cls := .type "tuple_iterator", data := .fields #[.ref l, .int 0 0] })
      (o := { cls := .type "enumerate", data := .fields #[.none, .bool false, .ref s.heap.objs.size, rawInt 0, .none, .none] }) rfl
    rw [hz] at this; exact this
  refine ⟨⟨_, he, rfl⟩, h _ he ⟨_, Heap.get?_push_of_some _ (Heap.get?_push_size _ rfl), rfl, rfl⟩ (by rw [Heap.size_push, hz]) fun b o x => Heap.get?_push_of_some _ (Heap.get?_push_of_some _ x)⟩
end
/-- the tuple at a, each item in a new pair -/
def IteT (K : PySem.W.Frag) (a : Addr) : It :=
  ⟨fun i H => ∃ (xs : List V) (x : V), SqT K H a xs ∧ xs[i]? = some x, fun i H v H' => ∃ T x, v = .ref T ∧ H T = none ∧ H' = upd H T (.tup [.int (i : Nat), x]) ∧ ∀ xs, SqT K H a xs → xs[i]? = some x, fun i H => ∃ xs : List V, SqT K H a xs ∧ xs.length ≤ i⟩
theorem apartT {h : Heap} {it a : Addr} {i : Nat} {items : Array Value} (h1 : h.IsTupleIter it a i) (h2 : h.IsTuple a items) : a ≠ it := fun z => by
  subst z
  obtain ⟨o, ho, hc, _⟩ := h1
  obtain ⟨o2, ho2, hc2, _⟩ := h2
  rw [ho] at ho2; cases ho2
  rw [hc] at hc2
  simp at hc2
theorem apartE {h : Heap} {it a e : Addr} {i : Int} {old : Value} {items : Array Value} (h1 : IsEnum h e it i old) (h2 : h.IsTuple a items) : e ≠ a := fun z => by
  subst z
  obtain ⟨o2, ho2, hc2, _⟩ := h2
  have h1 : h.get? e = some _ := h1
  rw [h1] at ho2; cases ho2
  simp at hc2
theorem turn_enumT {P : Program} {w : World} {K : PySem.W.Frag} {elts : List Expr} {kk : Nat} {tpos : Pos} (a e it : Addr) :
    Turn P w K (.Tuple elts kk tpos) (IteT K a) [e, it] e (fun i h => (∃ old, IsEnum h e it ((i : Nat) : Int) old) ∧ h.IsTupleIter it a i ∧ e ≠ it) where
  mem := by simp
  obj := fun i h st b hb => by
    obtain ⟨⟨old, he⟩, ⟨o, ho, hc, hd⟩, _⟩ := st
    have e' : b = e ∨ b = it := by simpa using hb
    rcases e' with z | z
    · rw [z]; exact ⟨_, he, fun v q => nomatch q⟩
    · rw [z]; exact ⟨o, ho, fun v q => by rw [hd] at q; cases q⟩
  keep := fun i h h' st k => let ⟨⟨old, he⟩, hi, hne⟩ := st; ⟨⟨old, k e (by simp) _ he⟩, hi.at fun o q => k it (by simp) o q, hne⟩
  item := by
    intro X hP hw hK hc i pins s σ H E I hf st hg
    subst hP hw hK
    obtain ⟨⟨old, he⟩, hit, hne⟩ := st
    obtain ⟨xs, x, hq, hx⟩ := hg
    obtain ⟨its, rv, p, _⟩ := I.tuple hq
    obtain ⟨u, hu, ru⟩ := rv.get hx
    have pt : s.heap.IsTuple a its.toArray := p
    have hel : e < s.heap.objs.size := Heap.lt_size he
    have hil : it < s.heap.objs.size := by obtain ⟨_, q, _⟩ := hit; exact Heap.lt_size q
    have hlt : i < its.toArray.size := by
      rcases Nat.lt_or_ge i its.toArray.size with z | z
      · exact z
      · rw [List.getElem?_eq_none (by simpa using z)] at hu; cases hu
    refine wpAny_pyNext_enum_itemD (n := its.toArray.size) (Draws.tuple (by exact I.ok.hd hc) it a (apartT hit pt) its.toArray) he ⟨hit, pt⟩ hlt hne (by simp; exact ⟨hne, apartE he pt⟩) fun x' h' tk hPx ho st' hT hsz hk => ?_
    obtain ⟨hit', pt'⟩ := st'
    have ex : x' = u := by
      have : its.toArray[i]? = some x' := hPx
      rw [List.getElem?_toArray, hu] at this
      exact (Option.some.inj this).symm
    subst ex
    refine ⟨_, rfl, wpAny_letOwnedTupleGo_enum (s := { s with heap := h', toks := tk + 1 }) ho fun h'' he' sb => ?_⟩
    have hT2 : h''.get? s.heap.objs.size = some { cls := .type "tuple", data := .seq #[.int i tk, x'] } := (sb.2 _ (Nat.ne_of_gt hel)).trans hT
    have new : ObjOk X.prog X.w (upd H s.heap.objs.size (.tup [.int (i : Nat), x])) h'' s.heap.objs.size (.tup [.int (i : Nat), x]) :=
      ⟨by show 2 ≤ sizeLine; decide, [.int i tk, x'], .cons ⟨_, rfl⟩ (.cons ru .nil), ⟨_, hT2, rfl, _, rfl⟩⟩
    have I1 : Inv X pins σ (upd H s.heap.objs.size (.tup [.int (i : Nat), x])) { s with heap := h'', toks := tk + 1 } :=
      I.turnedNew (ch := [e, it]) (fun b ob hb q => (sb.2 b (fun z => hb (by simp [z]))).trans (hk b ob (fun z => hb (by simp [z])) (fun z => hb (by simp [z])) q)) hf (Nat.le_refl _) new
    refine ⟨.ref s.heap.objs.size, _, I1, rfl, ⟨_, x, rfl, I.hok.fresh (Nat.le_refl _), rfl, fun ys hy => by rw [I.tuple_inj hy hq]; exact hx⟩, ⟨⟨x', ?_⟩, hit'.at fun o q => (sb.2 it (Ne.symm hne)).trans q, hne⟩, fun b hb => ?_⟩
    · have e1 : ((i + 1 : Nat) : Int) = (i : Int) + 1 := by omega
      rw [e1]; exact he'
    · have hb' : b < s.heap.objs.size := by
        have e' : b = e ∨ b = it := by simpa using hb
        rcases e' with z | z
        · rw [z]; exact hel
        · rw [z]; exact hil
      rw [upd_ne (Nat.ne_of_lt hb')]
      exact (hf b hb).1
  done := by
    intro X hP hw hK hc i pins s σ H E I hf st hg
    subst hP hw hK
    obtain ⟨⟨old, he⟩, hit, hne⟩ := st
    obtain ⟨xs, hq, hx⟩ := hg
    obtain ⟨its, rv, p, _⟩ := I.tuple hq
    have pt : s.heap.IsTuple a its.toArray := p
    obtain ⟨f0, f1, f2, f3, f4, f5⟩ := hf it (by simp)
    have hl := rv.length
    exact wpAny_pyNext_enum_endT (I.ok.hd hc) he hit pt (by simp; omega) fun h' eb => ⟨rfl, I.turned (t' := s.toks) (fun b o hb q => eb b o hb q) f0 f1 f3 f4 f5⟩
  self := fun A i s Q E st h => let ⟨⟨_, he⟩, _⟩ := st; wpAny_pyIter_enum he h
where
  wpAny_pyNext_enum_endT {prog : Program} {w : World} {A : Around} {E : Value → Shared → Prop} {s : Shared} {e it t : Addr} {i : Nat} {j : Int} {old : Value} {items : Array Value} {Q : Option Value → Shared → Prop} (hh : A.handled = none)
      (he : IsEnum s.heap e it j old) (hit : s.heap.IsTupleIter it t i) (ht : s.heap.IsTuple t items) (hx : items[i]? = none)
      (hQ : ∀ h', Heap.ExtBut it s.heap h' → Q none { s with heap := h' }) : wpAny (model prog w) A (pyNext (.ref e)) Q E s := by
    have hT : s.TypeIs (.ref e) "enumerate" := ⟨_, he, rfl⟩
    unfold pyNext
    refine wpAny_bind (wpAny_attempt (wpAny_callSpecial?_slot (name := Str.ofString "__next__") hT F.slot_enumerate_next
      (wpAny_call_entry F.slot_enumerate_next hT F.entry_enumerate_next ?_ (F.args_enumerate_next_1 _))))
    show wpAny _ _ (field (.ref e) 2 >>= _) _ _ _
    refine wpAny_bind (wpAny_field he rfl (x := .ref it) rfl ?_)
    refine wpAny_bind (wpAny_nextOf_tuple_end hh hit ht hx fun h' x he' hx' => ?_)
    obtain ⟨o, ho, hc⟩ := hx'
    refine wpAny_bind (wpAny_isInstance (T := "StopIteration") (b := true) ⟨o, ho, hc⟩ isSubtype_stop ?_)
    exact wpAny_pure (hQ _ he')
def iEnumA (K : PySem.W.Frag) (ta : TA) : TI := fun σ H R => ta σ H fun vs H1 => ∃ a xs, vs = [.ref a] ∧ ((SqL K H1 a xs ∧ R (Ite K a) H1) ∨ (SqT K H1 a xs ∧ R (IteT K a) H1))
theorem pi_enumA {X : Cx} {e : Expr} {ta : TA} {p pos tpos : Pos} {elts : List Expr} {kk : Nat} (hg : Gl X "enumerate") (hm : X.mg "enumerate" = none) (ha : PA X [e] ta) (hs : starEach [e] X.env = [(false, eval e X.env)] := by rfl) :
    PI X (.Tuple elts kk tpos) (.Call (.Name "enumerate" p) [e] [] pos) (iEnumA X.K ta) := by
  refine ⟨fun pins s σ H R I h => ?_⟩
  refine Call_ (ld_blt I hg hm boot_enumerate (PyProof.Rows.callWith_type1 (thn (ha.run pos pins s σ H _ I h) fun us s1 ⟨vs, H1, I1, r1, q1⟩ => ?_) hs rfl))
  obtain ⟨a, xs, ex, q1⟩ := q1
  subst ex
  cases r1 with
  | cons r rr =>
    cases rr
    cases r
    have fresh2 : ∀ b, b ∈ [s1.heap.objs.size + 1, s1.heap.objs.size] → FpOk X pins H1 b := fun b hb => by
      have e' : b = s1.heap.objs.size + 1 ∨ b = s1.heap.objs.size := by simpa using hb
      have hle : s1.heap.objs.size ≤ b := by
        rcases e' with z | z
        · rw [z]; exact Nat.le_add_right _ _
        · rw [z]; exact Nat.le_refl _
      exact I1.fpOk hle (I1.hok.fresh hle)
    rcases q1 with ⟨hq, q⟩ | ⟨hq, q⟩
    · obtain ⟨its, rv, p', hz⟩ := I1.list hq
      refine call_enumerate_list p'.isList fun h' he hit hsz hk => wpAny_pyIter_enum he ?_
      have I2 : Inv X pins σ H1 { s1 with heap := h' } := I1.kept (t' := s1.toks) hk
      exact ⟨s1.heap.objs.size + 1, [s1.heap.objs.size + 1, s1.heap.objs.size], _, _, H1, rfl, I2, turn_enum a (s1.heap.objs.size + 1) s1.heap.objs.size, ⟨⟨.none, he⟩, hit, Nat.succ_ne_self _⟩, fresh2, q⟩
    · obtain ⟨its, rv, p', _⟩ := I1.tuple hq
      refine call_enumT (show s1.heap.IsTuple a its.toArray from p') fun h' he hit hsz hk => wpAny_pyIter_enum he ?_
      have I2 : Inv X pins σ H1 { s1 with heap := h' } := I1.kept (t' := s1.toks) hk
      exact ⟨s1.heap.objs.size + 1, [s1.heap.objs.size + 1, s1.heap.objs.size], _, _, H1, rfl, I2, turn_enumT a (s1.heap.objs.size + 1) s1.heap.objs.size, ⟨⟨.none, he⟩, hit, Nat.succ_ne_self _⟩, fresh2, q⟩
theorem itd_enumT {K : PySem.W.Frag} {F : Hp} {a : Addr} {ds : List Dat} {vs : List V} (h : SqT K F a vs) (hs : Isl K ds vs F) : ItD K (IteT K a) (enD 0 ds) F :=
  ⟨fun H e => ⟨vs, e.sqt h, by rw [enD_length, hs.length]; exact Nat.le_refl _⟩, fun i H hi e => ⟨vs, vs[i]'(by rw [← hs.length, ← enD_length 0]; exact hi), e.sqt h, List.getElem?_eq_getElem _⟩, fun i d F' H x H' hd e1 e2 ⟨T, x1, e3, e4, e5, y⟩ => by
    subst e3
    subst e5
    obtain ⟨e, h1, h2⟩ := enD_get hd
    obtain ⟨v, h3, h4⟩ := hs.get h1
    have h5 := y vs ((e1.trans e2).sqt h)
    rw [h3] at h5
    cases h5
    have st := Stp.new (o := .tup [.int (i : Nat), x1]) e2 e4
    refine ⟨_, st, ?_⟩
    rw [h2, Nat.zero_add]
    exact .tup (.inl (.inl upd_same)) (.cons .v (.cons ((h4.mono e1).mono st.ff) .nil))⟩
/-! ### xs[::-1]: a new list -/
theorem isl_rev {K : PySem.W.Frag} {F : Hp} : ∀ {ds : List Dat} {us : List V}, Isl K ds us F → Isl K ds.reverse us.reverse F
  | [], _, h => by cases h; exact .nil
  | d :: ds, _, h => by cases h with | cons h1 h2 => rw [List.reverse_cons, List.reverse_cons]; exact (isl_rev h2).append (.cons h1 .nil)
section
variable {X : Cx} {W : WX} {R : RX} {e : Expr} {ρ : List Sl} {P : PV} {pos : Pos}
/-- a list that is made new, as what an expression gives -/
theorem fr_new {K : PySem.W.Frag} {σ : L2.St} {na : Option Addr} {F0 H0 F H : Hp} {a : Addr} {ds : List Dat} {us : List V} (c : Cur na F0 H0 F H) (n : Env1 K ρ σ na H0 F H) (ha : H a = none) (hd : Isl K ds us F) :
    RvE K ρ σ (.fr ds) (.ref a) F (upd H a (.lst us)) H0 := by
  refine .fr ?_ (fnone c.fh ha) upd_same hd fun i l es hi z => ?_
  · cases q0 : H0 a with
    | none => rfl
    | some u =>
      by_cases z : na = some a
      · obtain ⟨⟨o, ho⟩, _⟩ := c.lv a z
        rw [ha] at ho; cases ho
      · rw [c.hh a u z q0] at ha; cases ha
  · obtain ⟨b, ws, y1, y2, y3, _⟩ := n.ow i l es hi
    rw [z] at y1; cases y1
    rw [ha] at y3; cases y3
theorem wv_revL {kk : Nat} {p1 p2 p3 : Pos} (h : WE X W R e ρ fun d ρ' => ∃ ds, d = .lst ds ∧ P (.fr ds.reverse) ρ') : WV X W R (.Subscript e (.Slice none none (some (.UnaryOp .USub (.Constant (.int 1) kk p1) p2)) p3) pos) ρ P :=
  .of (pe_revL (pe_U (W := W))) fun σ na F0 H0 F H Q c0 n xo q => ⟨ρ, _, R, na, F0, H0, F, h, c0, n, xo, fun d v ρ' F' H' c' n' hd ⟨ds, e1, hp⟩ => by
    subst e1
    cases hd with
    | @lst a0 _ us _ ha hs =>
      refine ⟨a0, us, rfl, .inl (.inl (c'.fh _ _ ha)), fun p hp0 => ?_⟩
      have st := Stp.junk (o := .lst us.reverse) c'.fh hp0
      exact q _ _ ρ' _ _ (c'.stp st) (n'.stp st) (fr_new c' n' hp0 (isl_rev hs)) hp⟩
end
end Sf
namespace Sf
open PySem L2

/-! ### outcomes -/
inductive Oc (α : Type) where
  | ok (a : α) (ρ : List Sl)
  | ex (x : Exn) (ρ : List Sl)
  | no
namespace Oc
def bind {α β : Type} : Oc α → (α → List Sl → Oc β) → Oc β
  | .ok a ρ, f => f a ρ
  | .ex x ρ, _ => .ex x ρ
  | .no, _ => .no
def post {α : Type} : Oc α → (α → List Sl → Prop) → RX → Prop
  | .ok a ρ, P, _ => P a ρ
  | .ex x ρ, _, R => R x ρ
  | .no, _, _ => False
def dat : Oc Rv → Oc Dat
  | .ok a ρ => .ok a.dat ρ
  | .ex x ρ => .ex x ρ
  | .no => .no
def of {α : Type} : Option α → List Sl → Oc α
  | some a, ρ => .ok a ρ
  | none, _ => .no
section
variable {α β : Type} {o : Oc α} {f : α → List Sl → Oc β} {P P' : α → List Sl → Prop} {Q : β → List Sl → Prop} {R : RX}
theorem post_bind : (o.bind f).post Q R ↔ o.post (fun a ρ => (f a ρ).post Q R) R := by cases o <;> exact Iff.rfl
theorem post.imp (h : o.post P R) (i : ∀ a ρ, P a ρ → P' a ρ) : o.post P' R := by
  cases o with
  | ok a ρ => exact i a ρ h
  | ex x ρ => exact h
  | no => exact h
theorem post_dat {o : Oc Rv} {P : PD} : o.dat.post P R ↔ o.post (fun r ρ => P r.dat ρ) R := by cases o <;> exact Iff.rfl
theorem post_of {o : Option α} {ρ : List Sl} : (Oc.of o ρ).post P R ↔ ∃ a, o = some a ∧ P a ρ := by
  cases o with
  | none => exact ⟨fun h => h.elim, fun ⟨_, h, _⟩ => nomatch h⟩
  | some a => exact ⟨fun h => ⟨a, rfl, h⟩, fun ⟨b, h, p⟩ => by cases h; exact p⟩
end
end Oc
/-- what a def gives -/
inductive FR where
  | ret (r : Rv)
  | ex (x : Exn)
  | no
def FR.post : FR → (Rv → Prop) → (Exn → Prop) → Prop
  | .ret r, P, _ => P r
  | .ex x, _, R => R x
  | .no, _, _ => False
def FR.oc : FR → List Sl → Oc Rv
  | .ret r, ρ => .ok r ρ
  | .ex x, ρ => .ex x ρ
  | .no, _ => .no
def FR.ocD : FR → List Sl → Oc Dat
  | .ret r, ρ => .ok r.dat ρ
  | .ex x, ρ => .ex x ρ
  | .no, _ => .no
def Oc.pu : Oc Dat → Oc Rv
  | .ok d ρ => .ok (.pu d) ρ
  | .ex x ρ => .ex x ρ
  | .no => .no
theorem Oc.post_pu {o : Oc Dat} {P : PV} {R : RX} : o.pu.post P R ↔ o.post (fun d ρ => P (.pu d) ρ) R := by cases o <;> exact Iff.rfl
theorem FR.post_ocD {f : FR} {ρ : List Sl} {P : PD} {R : RX} : (f.ocD ρ).post P R ↔ f.post (fun r => P r.dat ρ) (fun x => R x ρ) := by cases f <;> exact Iff.rfl
/-- .. and the lent list, as it leaves it -/
inductive FN where
  | ret (r : Rv) (us : List Dat)
  | ex (x : Exn) (us : List Dat)
  | no
def FN.post : FN → (Rv → List Dat → Prop) → (Exn → List Dat → Prop) → Prop
  | .ret r us, P, _ => P r us
  | .ex x us, _, R => R x us
  | .no, _, _ => False
theorem FR.post_oc {f : FR} {ρ : List Sl} {P : PV} {R : RX} : (f.oc ρ).post P R ↔ f.post (fun r => P r ρ) (fun x => R x ρ) := by cases f <;> exact Iff.rfl

/-- the program's defs, by names -/
structure Calls where
  fn : Str → List Dat → FR
  fnN : Str → List Dat → List Dat → FN
  mt : Str → Str → List Dat → FR
  mkI : Str → List Dat → FR
/-- what the program's names are -/
structure Lk where
  kind : Str → GK
  hasM : Str → Str → Bool
  hasO : Str → Str → Nat → Bool
  isC : Str → Bool
  isF : Str → Str → Bool
  exm : Str → Str → Option Bool
  rm : Bool
  call : Calls
/-- where one stands: what is written there -/
structure SC extends Lk where
  N : List Str
  sc : Scope
  calm : Bool
  top : Bool
def SC.isVar (c : SC) (x : Str) : Bool := match c.sc.names.lookup x with
  | some .local => true
  | some .cell => true
  | some .free => true
  | _ => false
def SC.isLoc (c : SC) (x : Str) : Bool := match c.sc.names.lookup x with
  | some .local => true
  | some .cell => true
  | _ => false
def SC.isGl (c : SC) (x : Str) : Bool := match c.sc.names.lookup x with
  | some .globalImplicit => true
  | _ => false
def okName (x : Str) : Bool := !(x == "__debug__") && !(x == "__classdict__") && !(x == "__name__")
def ixOf : List Str → Str → Option Nat
  | [], _ => none
  | a :: as, x => if a == x then some 0 else (ixOf as x).map (· + 1)
/-- the slot of a variable -/
def SC.slot (c : SC) (x : Str) : Option Nat := match okName x && c.isVar x with
  | true => ixOf c.N x
  | false => none
/-- a slot that a store goes to -/
def SC.tslot (c : SC) (x : Str) : Option Nat := match okName x && c.isLoc x with
  | true => ixOf c.N x
  | false => none
/-- a module's or built-in name -/
def SC.glob (c : SC) (x : Str) : GK := match okName x && c.isGl x with
  | true => c.kind x
  | false => .no

def tyOf : Dat → Option Ty
  | .v .non => some .non
  | .v (.bl _) => some .bl
  | .v (.int _) => some .int
  | .v (.str _) => some .str
  | .lst _ => some .lst
  | .rol _ => some .lst
  | .tup _ => some .tup
  | .ins C _ _ => some (.cls C)
  | _ => none
def knownT (isC : Str → Bool) : Ty → Bool
  | .cls C => isC C
  | _ => true
/-- a datum whose type is known -/
def Lk.knows (c : Lk) (d : Dat) : Bool := match tyOf d with
  | some t => knownT c.isC t
  | none => false
/-! ### operations by data -/
def mulG (i j : Int) : Bool := decide (i.natAbs.log2 + j.natAbs.log2 < 1000000)
def divI (i j : Int) : Option Int := if 0 < j ∧ j.natAbs.log2 < 9000 then some (i / j) else if j ≠ 0 ∧ j.natAbs < 1073741824 then some (i.fdiv j) else none
def modI (i j : Int) : Option Int := if 0 < j then some (i % j) else if j ≠ 0 then some (i.fmod j) else none
def binI (op : Operator) (i j : Int) : Option Int := match op with
  | .Add => some (i + j)
  | .Sub => some (i - j)
  | .Mult => if mulG i j then some (i * j) else none
  | .FloorDiv => divI i j
  | .Mod => modI i j
  | .Pow => if 0 ≤ j ∧ j ≤ 1000000 ∧ i.natAbs < 2 ^ 64 then some (i ^ j.toNat) else none
  | _ => none
def cmpI (op : CmpOp) (i j : Int) : Option Bool := match op with
  | .Lt => some (decide (i < j))
  | .LtE => some (decide (i ≤ j))
  | .Gt => some (decide (j < i))
  | .GtE => some (decide (j ≤ i))
  | _ => none
/-- the own class's name of an operator -/
def opN (op : Operator) : Option Str := match op with
  | .Add => some "__add__"
  | .Sub => some "__sub__"
  | .Mult => some "__mul__"
  | .FloorDiv => some "__floordiv__"
  | .Mod => some "__mod__"
  | _ => none
def opB (c : Lk) (op : Operator) (d1 d2 : Dat) (ρ : List Sl) : Oc Rv := match d1, d2 with
  | .v (.int i), .v (.int j) => Oc.of ((binI op i j).map fun z => .pu (dI z)) ρ
  | .v (.str a), .v (.str b) => match op with
    | .Add => if a.length + b.length ≤ 100000 then .ok (.pu (dS (a ++ b))) ρ else .no
    | _ => .no
  | .lst a, .lst b => match op with
    | .Add => if a.length + b.length ≤ 100000 then .ok (.fr (a ++ b)) ρ else .no
    | _ => .no
  | .ins C ks fs, .ins D ls gs => match opN op with
    | some m => if c.hasO C m 2 && (C == D || c.hasO D m 2) then ((c.call.mt C m [.ins C ks fs, .ins D ls gs]).ocD ρ).pu else .no
    | none => .no
  | _, _ => .no
def boolD : Dat → Option Bool
  | .v (.bl b) => some b
  | _ => none
/-- equal numbers -/
def eqT1 (c : Lk) (d e : Dat) : Bool := match d, e with
  | .v x, .v y => flatV x && flatV y && eqV x y
  | .ins C ks fs, .ins D ls gs => C == D && c.hasO C "__eq__" 2 && (match c.call.mt C "__eq__" [.ins C ks fs, .ins C ls gs] with
    | .ret (.pu (.v (.bl true))) => true
    | _ => false)
  | _, _ => false
def eqT2 (c : Lk) (d e : Dat) : Bool := match d, e with
  | .tup as, .tup bs => as.length == bs.length && (as.zip bs).all fun p => eqT1 c p.1 p.2
  | _, _ => eqT1 c d e
/-- d1 == d2: True, False, or an exception, or no word -/
def eqO (c : Lk) (d1 d2 : Dat) (ρ : List Sl) : Oc Bool := match d1, d2 with
  | .v x, .v y => if scal x y then .ok (decide (x = y)) ρ else .no
  | .tup as, .tup bs => if c.rm && (as.length == bs.length && (as.zip bs).all fun p => eqT2 c p.1 p.2) then .ok true ρ else .no
  | .ins C ks fs, d => if c.hasO C "__eq__" 2 && c.knows d then ((c.call.mt C "__eq__" [.ins C ks fs, d]).ocD ρ).bind fun r ρ' => Oc.of (boolD r) ρ' else .no
  | _, _ => .no
def isNon : Dat → Option Bool
  | .v .non => some true
  | .v _ => some false
  | .lst _ => some false
  | .rol _ => some false
  | .tup _ => some false
  | .ins _ _ _ => some false
def seqOf : Dat → Option (List Dat)
  | .lst ds => some ds
  | .rol ds => some ds
  | .tup ds => some ds
  | _ => none
def opC (c : Lk) (op : CmpOp) (d1 d2 : Dat) (ρ : List Sl) : Oc Bool := match op with
  | .Eq => eqO c d1 d2 ρ
  | .NotEq => (eqO c d1 d2 ρ).bind fun b ρ' => .ok (!b) ρ'
  | .Is => match d2 with
    | .v .non => Oc.of (isNon d1) ρ
    | .v (.bl t) => match d1 with
      | .v (.bl u) => .ok (decide (u = t)) ρ
      | _ => .no
    | _ => .no
  | .In => match d1, seqOf d2 with
    | .v x, some es => if flatV x && es.all flatD then .ok (memD x es) ρ else .no
    | _, _ => .no
  | .IsNot => match d2 with
    | .v .non => Oc.of ((isNon d1).map (!·)) ρ
    | .v (.bl t) => match d1 with
      | .v (.bl u) => .ok (!decide (u = t)) ρ
      | _ => .no
    | _ => .no
  | _ => match d1, d2 with
    | .v (.int i), .v (.int j) => Oc.of (cmpI op i j) ρ
    | _, _ => .no
def intOf : Dat → Option Int
  | .v (.int i) => some i
  | _ => none
def strOf : Dat → Option Str
  | .v (.str i) => some i
  | _ => none
/-- an item -/
def itemD (d1 d2 : Dat) : Option Dat := match seqOf d1, intOf d2 with
  | some ds, some j => match ixN ds.length j with
    | some m => ds[m]?
    | none => none
  | _, _ => none
/-- the class that a name in isinstance stands for -/
def clsOf (c : SC) (x : Str) : Option Ty := match c.glob x with
  | .cls => some (.cls x)
  | .blt => if x == "int" then some .int else if x == "bool" then some .bl else if x == "str" then some .str else if x == "list" then some .lst else if x == "tuple" then some .tup else none
  | _ => none

/-! ### built-in functions of data -/
def blt1 (f : Str) (d : Dat) : Option Dat :=
  if f == "len" then (seqOf d).map fun ds => dI ds.length
  else if f == "abs" then (intOf d).map fun i => dI (if i < 0 then -i else i)
  else if f == "tuple" then match d with
    | .lst ds => some (.tup ds)
    | _ => none
  else none
def blt2 (f : Str) (d1 d2 : Dat) : Option Dat := match intOf d1, intOf d2 with
  | some i, some j => if f == "min" then some (dI (if j < i then j else i)) else if f == "max" then some (dI (if j > i then j else i)) else none
  | _, _ => none
def imp2 (id : String) (d1 d2 : Dat) : Option Dat := match intOf d1, intOf d2 with
  | some i, some j => if id == "math.gcd" then some (dI ((Nat.gcd i.natAbs j.natAbs : Nat) : Int)) else none
  | _, _ => none

/-! ### targets -/
def tgNs (c : SC) : List Expr → Option (List Nat)
  | [] => some []
  | .Name x _ :: es => match c.tslot x, tgNs c es with
    | some i, some is => some (i :: is)
    | _, _ => none
  | _ :: _ => none
inductive Tg where
  | one (i : Nat)
  | many (is : List Nat)
def tgOf (c : SC) : Expr → Option Tg
  | .Name x _ => (c.tslot x).map .one
  | .Tuple es _ _ => (tgNs c es).map .many
  | _ => none
def setTg : Tg → Dat → List Sl → Option (List Sl)
  | .one i, d, ρ => some (ρ.set i (.pu d))
  | .many is, .tup ds, ρ => if is.length = ds.length then some (setNs is ds ρ) else none
  | _, _, _ => none

/-! ### comprehensions -/
def ownOf (N : List Str) (scope : Scope) : List (Str × Nat) := scope.names.filterMap fun p => match p.2 with
  | .local => (ixOf N p.1).map fun i => (p.1, i)
  | .cell => (ixOf N p.1).map fun i => (p.1, i)
  | _ => none
def SC.blk (c : SC) (scope : Scope) : SC := { c with sc := relS scope c.sc, top := false }
def compGo (tg : Tg) (vs : List Nat) (tst : List Sl → Oc Bool) (elt : List Sl → Oc Dat) : List Dat → List Dat → List Sl → Oc (List Dat)
  | [], acc, ρ => .ok acc ρ
  | d :: ds, acc, ρ => match setTg tg d ρ with
    | none => .no
    | some ρ2 => match tst ρ2 with
      | .ok true ρ3 => match elt ρ3 with
        | .ok y ρ4 => compGo tg vs tst elt ds (acc ++ [y]) (wip ρ4 vs)
        | _ => .no
      | .ok false ρ3 => compGo tg vs tst elt ds acc (wip ρ3 vs)
      | _ => .no

/-! ### statements' outcomes -/
inductive So where
  | nx (ρ : List Sl)
  | rt (r : Rv) (ρ : List Sl)
  | bk (ρ : List Sl)
  | ct (ρ : List Sl)
  | ex (x : Exn) (ρ : List Sl)
  | no
namespace So
def post : So → Kn → RX → Prop
  | .nx ρ, k, _ => k.nx ρ
  | .rt r ρ, k, _ => k.rt r ρ
  | .bk ρ, k, _ => k.bk ρ
  | .ct ρ, k, _ => k.ct ρ
  | .ex x ρ, _, R => R x ρ
  | .no, _, _ => False
def bind : So → (List Sl → So) → So
  | .nx ρ, f => f ρ
  | .rt r ρ, _ => .rt r ρ
  | .bk ρ, _ => .bk ρ
  | .ct ρ, _ => .ct ρ
  | .ex x ρ, _ => .ex x ρ
  | .no, _ => .no
theorem post_bind {o : So} {f : List Sl → So} {k : Kn} {R : RX} : (o.bind f).post k R ↔ o.post { k with nx := fun ρ => (f ρ).post k R } R := by cases o <;> exact Iff.rfl
end So
def Oc.so {α : Type} : Oc α → (α → List Sl → So) → So
  | .ok a ρ, f => f a ρ
  | .ex x ρ, _ => .ex x ρ
  | .no, _ => .no
theorem Oc.post_so {α : Type} {o : Oc α} {f : α → List Sl → So} {k : Kn} {R : RX} : (o.so f).post k R ↔ o.post (fun a ρ => (f a ρ).post k R) R := by cases o <;> exact Iff.rfl
/-- items one by one -/
def forGo (tg : Tg) (body : List Sl → So) : List Dat → List Sl → So
  | [], ρ => .nx ρ
  | d :: ds, ρ => match setTg tg d ρ with
    | none => .no
    | some ρ2 => match body ρ2 with
      | .nx ρ3 => forGo tg body ds ρ3
      | .ct ρ3 => forGo tg body ds ρ3
      | .bk ρ3 => .nx ρ3
      | .rt r ρ3 => .rt r ρ3
      | .ex x ρ3 => .ex x ρ3
      | .no => .no
def LF : Nat := 1000000000
def whileGo (tst : List Sl → Oc Bool) (body : List Sl → So) : Nat → List Sl → So
  | 0, _ => .no
  | n + 1, ρ => match tst ρ with
    | .ok true ρ2 => match body ρ2 with
      | .nx ρ3 => whileGo tst body n ρ3
      | .ct ρ3 => whileGo tst body n ρ3
      | .bk ρ3 => .nx ρ3
      | .rt r ρ3 => .rt r ρ3
      | .ex x ρ3 => .ex x ρ3
      | .no => .no
    | .ok false ρ2 => .nx ρ2
    | .ex x ρ2 => .ex x ρ2
    | .no => .no
end Sf
namespace Sf
open PySem L2

/-- the slot of a variable that holds an own list -/
def ownV (c : SC) (e : Expr) (ρ : List Sl) : Option Nat := match e with
  | .Name x _ => match c.slot x with
    | some i => match ρ[i]? with
      | some (.ow _ _) => some i
      | _ => none
    | none => none
  | _ => none
def noStar : List Expr → Bool
  | [] => true
  | .Starred _ _ :: _ => false
  | _ :: es => noStar es
/-- no super() -/
def plainO : Expr → Bool
  | .Call (.Name _ _) [] [] _ => false
  | _ => true
def notSl : Expr → Bool
  | .Slice _ _ _ _ => false
  | _ => true
def notComp : Expr → Bool
  | .ListComp _ _ _ _ => false
  | .SetComp _ _ _ _ => false
  | .DictComp _ _ _ _ _ => false
  | _ => true
def notSet : Expr → Bool
  | .Set _ _ _ => false
  | _ => true
def popD (ds : List Dat) : Option (Dat × List Dat) := match ds.reverse with
  | [] => none
  | d :: es => some (d, es.reverse)
def negD (c : Lk) (d : Dat) (ρ : List Sl) : Oc Rv := match d with
  | .v (.int i) => .ok (.pu (dI (-i))) ρ
  | .ins C ks fs => if c.hasO C "__neg__" 1 then ((c.call.mt C "__neg__" [.ins C ks fs]).ocD ρ).pu else .no
  | _ => .no
def lineOk (apos pos : Pos) : Bool := apos.endLine == pos.line
/-- own lists' methods -/
def ownM (m : Str) (args : List Expr) (i : Nat) (ρ : List Sl) : Oc Rv := match ρ[i]? with
  | some (.ow lb ds) => if m == "pop" then match args with
      | [] => match popD ds with
        | some (d, es) => .ok (.pu d) (ρ.set i (.ow lb es))
        | none => .no
      | [.Constant (.int 0) _ _] => match ds with
        | d :: es => .ok (.pu d) (ρ.set i (.ow lb es))
        | [] => .no
      | _ => .no
    else .no
  | _ => .no
/-- methods of texts -/
def strM (m : Str) (z : Str) (as : List Dat) : Option Dat := match as with
  | _ => none
/-- isinstance -/
def isaD (c : SC) (d : Dat) (xs : List Str) : Option Bool := match tyOf d with
  | none => none
  | some t => match xs with
    | [x] => if knownT c.isC t then (clsOf c x).map fun u => isaT t u else none
    | _ => none
def isLT (xs : List Expr) : Bool := match xs with
  | [.Name a _, .Name b _] => a == "list" && b == "tuple"
  | _ => false
def listD : Dat → Option (List Dat) := seqOf
/-- str(d) -/
def strC (c : Lk) (d : Dat) (ρ : List Sl) : Oc Dat := match d with
  | .ins C ks fs => if c.hasO C "__str__" 1 then ((c.call.mt C "__str__" [.ins C ks fs]).ocD ρ).bind fun r ρ' => Oc.of ((strOf r).map dS) ρ'
      else .no
  | .v (.int i) => if i.natAbs.log2 < 1920 then .ok (dS (toString i)) ρ else .no
  | _ => .no
def bltC (c : Lk) (x : Str) (ds : List Dat) (ρ : List Sl) : Oc Rv := match ds with
  | [d] => if x == "list" then Oc.of ((listD d).map .fr) ρ else if x == "str" then (strC c d ρ).pu else Oc.of ((blt1 x d).map .pu) ρ
  | [d1, d2] => Oc.of ((blt2 x d1 d2).map .pu) ρ
  | _ => .no
def itOk : List Comprehension → Bool
  | [⟨_, it, ifs, _⟩] => notSet it && decide (ifs.length ≤ 1)
  | _ => false
def knB (x : Str) : Nat → Bool
  | 1 => x == "list" || x == "str" || x == "len" || x == "abs" || x == "tuple"
  | 2 => x == "min" || x == "max"
  | _ => false
/-- small enough for range; told by constructors, so that the kernel stops at a free number -/
def smI : Int → Bool
  | .ofNat k => Nat.ble k 4611686018427387903
  | .negSucc k => Nat.ble k 4611686018427387903
theorem smI_of {i : Int} (h : smI i = true) : -(2 ^ 62) ≤ i ∧ i < 2 ^ 62 := by
  cases i with
  | ofNat k =>
    have := Nat.le_of_ble_eq_true h
    show -(2 ^ 62) ≤ (k : Int) ∧ (k : Int) < 2 ^ 62
    omega
  | negSucc k =>
    have := Nat.le_of_ble_eq_true h
    omega
theorem smI_ok {i : Int} (h1 : -(2 ^ 62) ≤ i) (h2 : i < 2 ^ 62) : smI i = true := by
  cases i with
  | ofNat k =>
    have h2 : (k : Int) < 2 ^ 62 := h2
    exact Nat.ble_eq_true_of_le (by omega)
  | negSucc k => exact Nat.ble_eq_true_of_le (by omega)
/-- range -/
def rngI (ds : List Dat) : Option (List Dat) := match ds with
  | [.v (.int n)] => if smI n then some (rgD 0 1 n.toNat) else none
  | [.v (.int i), .v (.int j)] => if smI i && smI j then some (rgD i 1 (j - i).toNat) else none
  | [.v (.int i), .v (.int j), .v (.int (-1))] => if -100000 ≤ i ∧ i ≤ 100000 ∧ -100000 ≤ j ∧ j ≤ 100000 then some (rgD i (-1) (i - j).toNat) else none
  | _ => none
def zipI (d1 d2 : Dat) : Option (List Dat) := match d1, d2 with
  | .lst a, .lst b => some (zpD a b)
  | .tup a, .tup b => some (zpD a b)
  | _, _ => none
def enI (d : Dat) : Option (List Dat) := match d with
  | .lst a => some (enD 0 a)
  | .tup a => some (enD 0 a)
  | _ => none
/-- [::-1] -/
def isRev : Expr → Bool
  | .Slice none none (some (.UnaryOp .USub (.Constant (.int 1) _ _) _)) _ => true
  | _ => false
def revD : Dat → Option Rv
  | .lst ds => some (.fr ds.reverse)
  | _ => none
/-- what a store to a name puts there -/
def slOf : Rv → Sl
  | .pu d => .pu d
  | .fr ds => .ow false ds
def hotK (k : GK) : GK := match k with
  | .fn => .no
  | .fnN => .no
  | .cls => .no
  | .excF _ => .no
  | k => k
def Lk.hot (c : Lk) : Lk := { c with kind := fun x => hotK (c.kind x), hasM := fun _ _ => false, hasO := fun _ _ _ => false, rm := false }
def SC.hot (c : SC) : SC := ⟨c.toLk.hot, c.N, c.sc, false, false⟩
def SC.hotX (c : SC) : SC := { c with calm := false, top := false, kind := fun x => hotK (c.kind x), hasM := fun _ _ => false, hasO := fun _ _ _ => false }
def subsetV (t : Tg) (vs : List Nat) : Bool := match t with
  | .one i => vs.contains i
  | .many is => is.all fun i => vs.contains i
/-- a call of a name: eA its arguments, eH the first one, eT all but the first -/
def callN (c : SC) (x : Str) (args : List Expr) (kws : List Keyword) (ρ : List Sl) (eA : Oc (List Dat)) (eH : Oc Rv) (eT : Oc (List Dat)) : Oc Rv :=
  if noStar args && kws.isEmpty then match c.slot x with
      | some _ => .no
      | none => match c.glob x with
        | .fn => if args.isEmpty then .no else eA.bind fun ds ρ1 => (c.call.fn x ds).oc ρ1
        | .cls => eA.bind fun ds ρ1 => ((c.call.mkI x ds).ocD ρ1).pu
        | .fnN => match args with
          | y :: es => match ownV c y ρ with
            | some i => eT.bind fun ds ρ1 => match ρ1[i]? with
              | some (.ow lb us) => match c.call.fnN x us ds with
                | .ret r us' => .ok r (ρ1.set i (.ow lb us'))
                | .ex z us' => .ex z (ρ1.set i (.ow lb us'))
                | .no => .no
              | _ => .no
            | none => .no
          | [] => .no
        | .imp id => if args.length = 2 ∧ id = "math.gcd" then eA.bind fun ds ρ1 => match ds with
            | [d1, d2] => Oc.of ((imp2 id d1 d2).map .pu) ρ1
            | _ => .no
          else .no
        | .blt => if x == "isinstance" then match args with
            | [e, .Name t _] => eH.dat.bind fun d ρ1 => Oc.of ((isaD c d [t]).map fun b => .pu (dB b)) ρ1
            | [e, .Tuple ts _ _] => if isLT ts && decide (c.glob "list" = .blt) && decide (c.glob "tuple" = .blt) then eH.dat.bind fun d ρ1 => if c.knows d then Oc.of ((tyOf d).map fun t => .pu (dB (decide (t = .lst) || decide (t = .tup)))) ρ1 else .no else .no
            | _ => .no
          else match args with
            | [e] => match x == "len", ownV c e ρ with
              | true, some i => match ρ[i]? with
                | some (.ow _ ds) => .ok (.pu (dI ds.length)) ρ
                | _ => .no
              | _, _ => if knB x 1 then eA.bind fun ds ρ1 => bltC c.toLk x ds ρ1 else .no
            | _ => if knB x args.length && c.calm then eA.bind fun ds ρ1 => bltC c.toLk x ds ρ1 else .no
        | _ => .no
    else .no
def isTupE : Expr → Bool
  | .Tuple _ _ _ => true
  | _ => false
def iterN (c : SC) (x : Str) (args : List Expr) (kws : List Keyword) (tg : Expr) (eA : Oc (List Dat)) (w : Oc Rv) : Oc (List Dat) :=
  match (noStar args && kws.isEmpty), c.slot x, c.glob x with
  | true, none, .blt => if x == "range" then if decide (1 ≤ args.length) && decide (args.length ≤ 3) then eA.bind fun ds ρ1 => Oc.of (rngI ds) ρ1 else .no
    else if x == "enumerate" then if isTupE tg && decide (args.length = 1) then eA.bind fun ds ρ1 => match ds with
          | [d] => Oc.of (enI d) ρ1
          | _ => .no
        else .no
    else if x == "zip" then if isTupE tg && decide (args.length = 2) then eA.bind fun ds ρ1 => match ds with
          | [d1, d2] => Oc.of (zipI d1 d2) ρ1
          | _ => .no
        else .no
    else w.dat.bind fun d ρ1 => Oc.of (seqOf d) ρ1
  | _, _, _ => w.dat.bind fun d ρ1 => Oc.of (seqOf d) ρ1
mutual
def evE : Expr → SC → List Sl → Oc Rv
  | .Constant k _ _, c, ρ => match k with
    | .int i => .ok (.pu (dI i)) ρ
    | .bool b => .ok (.pu (dB b)) ρ
    | .none => .ok (.pu dN) ρ
    | .str z => .ok (.pu (dS z)) ρ
    | _ => .no
  | .Name x _, c, ρ => match c.slot x with
    | some i => match ρ[i]? with
      | some (.pu d) => .ok (.pu d) ρ
      | some (.ow false ds) => .ok (.pu (.lst ds)) (ρ.set i (.pu (.lst ds)))
      | _ => .no
    | none => match c.glob x with
      | .int i => .ok (.pu (dI i)) ρ
      | .str z => .ok (.pu (dS z)) ρ
      | .tupI is => .ok (.pu (.tup (is.map dI))) ρ
      | _ => .no
  | .BinOp a op b _, c, ρ => (evE a c ρ).dat.bind fun d1 ρ1 => (evE b c ρ1).dat.bind fun d2 ρ2 => opB c.toLk op d1 d2 ρ2
  | .UnaryOp op a _, c, ρ => match op with
    | .USub => (evE a c ρ).dat.bind fun d ρ1 => negD c.toLk d ρ1
    | .Not => (evE a c ρ).dat.bind fun d ρ1 => Oc.of ((boolD d).map fun b => .pu (dB (!b))) ρ1
    | _ => .no
  | .BoolOp op es _, c, ρ => evB es op c ρ
  | .Compare a ops bs _, c, ρ => match ops with
    | [op] => if bs.all notSet && decide (bs.length = 1) then (evE a c ρ).dat.bind fun d1 ρ1 => (evE1 bs c ρ1).bind fun d2 ρ2 => (opC c.toLk op d1 d2 ρ2).bind fun b ρ3 => .ok (.pu (dB b)) ρ3 else .no
    | _ => .no
  | .IfExp t a b _, c, ρ => (evT t c ρ (evE t c ρ)).bind fun r ρ1 => if r then evE a c ρ1 else evE b c ρ1
  | .Attribute e f _, c, ρ => if plainO e then (evE e c ρ).dat.bind fun d ρ1 => match d with
      | .ins C ks fs => if c.isF C f then Oc.of ((look ks fs f).map .pu) ρ1 else .no
      | _ => .no
    else .no
  | .Subscript a b _, c, ρ => if notSl b then match ownV c a ρ with
      | some i => (evE b c ρ).dat.bind fun d2 ρ2 => match ρ2[i]? with
        | some (.ow _ ds) => Oc.of ((itemD (.lst ds) d2).map .pu) ρ2
        | _ => .no
      | none => (evE a c ρ).dat.bind fun d1 ρ1 => (evE b c ρ1).dat.bind fun d2 ρ2 => Oc.of ((itemD d1 d2).map .pu) ρ2
    else if isRev b then (evE a c ρ).dat.bind fun d ρ1 => Oc.of (revD d) ρ1 else .no
  | .List es _, c, ρ => if noStar es then (evEs es c ρ).bind fun ds ρ1 => if ds.length ≤ 100000 then .ok (.fr ds) ρ1 else .no else .no
  | .Tuple es _ _, c, ρ => if noStar es then (evEs es c ρ).bind fun ds ρ1 => if ds.length ≤ 100000 then .ok (.pu (.tup ds)) ρ1 else .no else .no
  | .ListComp elt gens scope _, c, ρ => match tgsOf gens (c.blk scope) with
    | some t => if itOk gens && c.calm && blkC c.N c.sc scope (ownOf c.N scope) && subsetV t ((ownOf c.N scope).map (·.2)) then (evG gens c ρ).bind fun ds ρ0 => if ds.length ≤ 100000 then
          (compGo t ((ownOf c.N scope).map (·.2)) (fun ρ => evTg gens (c.blk scope) ρ) (fun ρ => (evE elt (c.blk scope) ρ).dat) ds [] (wip ρ0 ((ownOf c.N scope).map (·.2)))).bind fun acc ρ1 => .ok (.fr acc) (bak ρ0 ρ1 ((ownOf c.N scope).map (·.2)))
        else .no
      else .no
    | none => .no
  | .Call (.Name x _) args kws _, c, ρ => callN c x args kws ρ (evEs args c ρ) (evHd args c ρ) (evTl args c ρ)
  | .Call (.Attribute o m apos) args kws pos, c, ρ => if noStar args && kws.isEmpty && lineOk apos pos && decide (args.length < 20) then match ownV c o ρ with
      | some i => ownM m args i ρ
      | none => if plainO o then (evE o c ρ).dat.bind fun d ρ1 => match d with
          | .ins C ks fs => if c.hasM C m && !(ks.contains m) then (evEs args c ρ1).bind fun as ρ2 => (c.call.mt C m (.ins C ks fs :: as)).oc ρ2 else .no
          | _ => .no
        else .no
    else .no
  | _, _, _ => .no
def evHd : List Expr → SC → List Sl → Oc Rv
  | e :: _, c, ρ => evE e c ρ
  | [], _, _ => .no
def evTl : List Expr → SC → List Sl → Oc (List Dat)
  | _ :: es, c, ρ => evEs es c ρ
  | [], _, _ => .no
def evE1 : List Expr → SC → List Sl → Oc Dat
  | [e], c, ρ => (evE e c ρ).dat
  | _, _, _ => .no
def evEs : List Expr → SC → List Sl → Oc (List Dat)
  | [], c, ρ => .ok [] ρ
  | e :: es, c, ρ => (evE e c ρ).dat.bind fun d ρ1 => (evEs es c ρ1).bind fun ds ρ2 => .ok (d :: ds) ρ2
def evB : List Expr → BoolOp → SC → List Sl → Oc Rv
  | [], _, _, _ => .no
  | e :: es, op, c, ρ => match es with
    | [] => evE e c ρ
    | _ :: _ => (evE e c ρ).dat.bind fun d ρ1 => match boolD d, op with
      | some true, .And => evB es op c ρ1
      | some false, .And => .ok (.pu (dB false)) ρ1
      | some true, .Or => .ok (.pu (dB true)) ρ1
      | some false, .Or => evB es op c ρ1
      | none, _ => .no
def evT : Expr → SC → List Sl → Oc Rv → Oc Bool
  | .UnaryOp op a p, c, ρ, _ => match op with
    | .Not => (evT a c ρ (evE a c ρ)).bind fun b ρ1 => .ok (!b) ρ1
    | _ => .no
  | .BoolOp op es _, c, ρ, _ => evTs es op c ρ
  | .Compare a ops bs _, c, ρ, _ => match ops with
    | [op] => if bs.all notSet && decide (bs.length = 1) then (evE a c ρ).dat.bind fun d1 ρ1 => (evE1 bs c ρ1).bind fun d2 ρ2 => opC c.toLk op d1 d2 ρ2 else .no
    | [.LtE, .Lt] => if bs.all notSet && decide (bs.length = 2) then (evE a c ρ).dat.bind fun d1 ρ1 => evLL bs d1 c ρ1 else .no
    | _ => .no
  | .IfExp _ _ _ _, _, _, _ => .no
  | .Name _ _, _, _, w => w.dat.bind fun d ρ1 => Oc.of (boolD d) ρ1
  | .Call _ _ _ _, _, _, w => w.dat.bind fun d ρ1 => Oc.of (boolD d) ρ1
  | _, _, _, _ => .no
def evLL : List Expr → Dat → SC → List Sl → Oc Bool
  | [b, e], d1, c, ρ => (evE b c ρ).dat.bind fun d2 ρ1 => match intOf d1, intOf d2 with
    | some i, some j => if i ≤ j then (evE e c ρ1).dat.bind fun d3 ρ2 => match intOf d3 with
        | some z => .ok (decide (j < z)) ρ2
        | none => .no
      else .ok false ρ1
    | _, _ => .no
  | _, _, _, _ => .no
def evTs : List Expr → BoolOp → SC → List Sl → Oc Bool
  | [], _, _, _ => .no
  | e :: es, op, c, ρ => match es with
    | [] => evT e c ρ (evE e c ρ)
    | _ :: _ => (evT e c ρ (evE e c ρ)).bind fun b ρ1 => match b, op with
      | true, .And => evTs es op c ρ1
      | false, .And => .ok false ρ1
      | true, .Or => .ok true ρ1
      | false, .Or => evTs es op c ρ1
def tgsOf : List Comprehension → SC → Option Tg
  | [⟨tg, _, _, 0⟩], c => tgOf c tg
  | _, _ => none
def evG : List Comprehension → SC → List Sl → Oc (List Dat)
  | [⟨tg, it, _, _⟩], c, ρ => evI it tg c ρ (evE it c ρ)
  | _, _, _ => .no
def evTg : List Comprehension → SC → List Sl → Oc Bool
  | [⟨_, _, ifs, _⟩], c, ρ => evIf ifs c ρ
  | _, _, _ => .no
def evIf : List Expr → SC → List Sl → Oc Bool
  | [], _, ρ => .ok true ρ
  | [e], c, ρ => evT e c ρ (evE e c ρ)
  | _, _, _ => .no
/-- what a loop walks -/
def evI : Expr → Expr → SC → List Sl → Oc Rv → Oc (List Dat)
  | .Call (.Name x _) args kws _, tg, c, ρ, w => iterN c x args kws tg (evEs args c ρ) w
  | _, _, _, _, w => w.dat.bind fun d ρ1 => Oc.of (seqOf d) ρ1
end
end Sf
namespace Sf
open PySem L2
/-- slots behind a store -/
def setSl (i : Nat) (r : Rv) (ρ : List Sl) : List Sl := ρ.set i (slOf r)
/-- is the name of the except clause an exception class of the program's own (or ValueError)? -/
def hotC (c : SC) : SC := c.hot
def isExcK : GK → Bool
  | .exc => true
  | .excF _ => true
  | _ => false
def isOw (ρ : List Sl) (i : Nat) : Bool := match ρ[i]? with
  | some (.ow _ _) => true
  | _ => false
/-- the one clause: its class; its name with the field that its suite returns -/
def hndN : List ExceptHandler → Option (Str × Option (Str × Str))
  | [.ExceptHandler (some (.Name x _)) none (_ :: _) _] => some (x, none)
  | [.ExceptHandler (some (.Name x _)) (some n) [.Return (some (.Attribute (.Name y _) f _)) _] _] => if y == n then some (x, some (n, f)) else none
  | _ => none
def isStrK : Expr → Bool
  | .Constant (.str _) _ _ => true
  | _ => false
def SC.isLo (c : SC) (x : Str) : Bool := match c.sc.names.lookup x with
  | some .local => true
  | _ => false
mutual
def evS : Stmt → SC → List Sl → So
  | .Expr e _, c, ρ => match e with
    | .Call (.Attribute o m apos) [a] [] pos => if m == "append" && lineOk apos pos then match ownV c o ρ with
        | some i => if noStar [a] then (evE a c ρ).dat.so fun d ρ1 => match ρ1[i]? with
            | some (.ow lb ds) => if ds.length < 100000 then .nx (ρ1.set i (.ow lb (ds ++ [d]))) else .no
            | _ => .no
          else .no
        | none => (evE e c ρ).so fun _ ρ1 => .nx ρ1
      else (evE e c ρ).so fun _ ρ1 => .nx ρ1
    | _ => if notComp e then (evE e c ρ).so fun _ ρ1 => .nx ρ1 else .no
  | .Assign ts e _, c, ρ => match ts with
    | [.Name y _] => match c.tslot y with
      | some i => (evE e c ρ).so fun r ρ1 => .nx (setSl i r ρ1)
      | none => .no
    | [.Attribute (.Name y _) f _] => if notComp e then match c.slot y with
        | some i => (evE e c ρ).dat.so fun d ρ1 => match ρ1[i]? with
          | some (.ob C ks ds) => if c.isF C f && !(ks.contains f) && decide (ks.length < 900) then .nx (ρ1.set i (.ob C (ks ++ [f]) (ds ++ [d]))) else .no
          | _ => .no
        | none => .no
      else .no
    | [.Subscript (.Name y _) b _] => if notComp e && notSl b then match c.slot y with
        | some i => (evE e c ρ).dat.so fun d ρ1 => if isOw ρ1 i then (evE b c ρ1).dat.so fun d2 ρ2 => match ρ2[i]?, intOf d2 with
          | some (.ow lb ds), some j => match ixN ds.length j with
            | some m => .nx (ρ2.set i (.ow lb (ds.set m d)))
            | none => .no
          | _, _ => .no
          else .no
        | none => .no
      else .no
    | [.Tuple es _ _] => match e with
      | .Tuple _ _ _ => .no
      | _ => if notComp e && c.calm then match tgNs c es with
          | some is => (evE e c ρ).dat.so fun d ρ1 => match setTg (.many is) d ρ1 with
            | some ρ2 => .nx ρ2
            | none => .no
          | none => .no
        else .no
    | _ => .no
  | .Return o _, c, ρ => match o with
    | none => .rt (.pu dN) ρ
    | some e => match ownV c e ρ with
      | some i => match ρ[i]? with
        | some (.ow false ds) => .rt (.fr ds) ρ
        | _ => .no
      | none => (evE e c ρ).so fun r ρ1 => .rt r ρ1
  | .If t a b _, c, ρ => (evT t c ρ (evE t c ρ)).so fun r ρ1 => if r then evSs a c ρ1 else evSs b c ρ1
  | .For tg it body els _, c, ρ => match els, tgOf c tg with
    | [], some t => if c.calm && notSet it then (evI it tg c ρ (evE it c ρ)).so fun ds ρ1 => forGo t (fun ρ => evSs body c ρ) ds ρ1 else .no
    | _, _ => .no
  | .While t body els _, c, ρ => match els with
    | [] => whileGo (fun ρ => evT t c ρ (evE t c ρ)) (fun ρ => evSs body c ρ) LF ρ
    | _ => .no
  | .Raise o cause _, c, ρ => match o, cause with
    | some (.Call (.Name x _) [e] [] _), none => if c.calm then match c.slot x, c.glob x with
        | none, .exc => if isStrK e then .ex ⟨x, [], []⟩ ρ else .no
        | none, .excF f => if noStar [e] then (evE e c ρ).dat.so fun d ρ1 => .ex ⟨x, [f], [d]⟩ ρ1 else .no
        | _, _ => .no
      else .no
    | _, _ => .no
  | .Try body hs els fin _, c, ρ => match els, fin with
    | [], [] => if c.top && c.calm then match hndN hs with
        | some (x, none) => if isExcK (c.glob x) then match evSs body c ρ with
            | .ex z ρ1 => match c.exm z.cls x with
              | some true => evH hs c ρ1
              | some false => .ex z ρ1
              | none => .no
            | o => o
          else .no
        | some (x, some (n, f)) => match c.glob x, c.tslot n, c.isLo n with
          | .excF g, some i, true => if f == g then match evSs body c ρ with
            | .ex z ρ1 => match c.exm z.cls x with
              | some true => if z.cls == x && decide (i < ρ1.length) && !(z.ks.isEmpty) then match look z.ks z.ds f with
                  | some d => .rt (.pu d) (ρ1.set i .no)
                  | none => .no
                else .no
              | some false => .ex z ρ1
              | none => .no
            | o => o
            else .no
          | _, _, _ => .no
        | none => .no
      else .no
    | _, _ => .no
  | .Pass _, _, ρ => .nx ρ
  | .Break _, _, ρ => .bk ρ
  | .Continue _, _, ρ => .ct ρ
  | _, _, _ => .no
def evSs : List Stmt → SC → List Sl → So
  | [], _, ρ => .nx ρ
  | s :: ss, c, ρ => (evS s c ρ).bind fun ρ1 => evSs ss c ρ1
/-- the suite -/
def evH : List ExceptHandler → SC → List Sl → So
  | [.ExceptHandler _ _ body _], c, ρ => match evSs body c.hot ρ with
    | .ex _ _ => .no
    | o => o
  | _, _, _ => .no
end
def FnI.start (f : FnI) (ss : List Sl) : List Sl := ss ++ List.replicate (f.N.length - ss.length) Sl.no
/-- the arguments with the defaults that lack -/
def FnI.full (f : FnI) (k : Nat) (ds : List Dat) : Option (List Dat) := if ds.length + k ≤ f.ps.length ∧ f.ps.length - k - ds.length ≤ f.dfl.length then
  (let as := ds ++ (f.dfl.drop (f.dfl.length - (f.ps.length - k - ds.length))).map Dat.v; if as.length + k = f.ps.length then some as else none) else none
/-- a law's program -/
structure Tab where
  kind : Str → GK
  hasM : Str → Str → Bool
  hasO : Str → Str → Nat → Bool
  isC : Str → Bool
  isF : Str → Str → Bool
  exm : Str → Str → Option Bool
  fn : Str → Option FnI
  mt : Str → Str → Option FnI
def Tab.sc (T : Tab) (f : FnI) (call : Calls) : SC := ⟨⟨T.kind, T.hasM, T.hasO, T.isC, T.isF, T.exm, true, call⟩, f.N, f.scope, true, true⟩
def runF (T : Tab) (call : Calls) (f : FnI) (ds : List Dat) : FR := match f.full 0 ds with
  | none => .no
  | some as => match evSs f.body (T.sc f call) (f.start (as.map .pu)) with
    | .nx _ => .ret (.pu dN)
    | .rt r _ => .ret r
    | .ex x _ => .ex x
    | _ => .no
def runN (T : Tab) (call : Calls) (f : FnI) (us ds : List Dat) : FN := match f.full 1 ds with
  | none => .no
  | some as => match evSs f.body (T.sc f call) (f.start (.ow true us :: as.map .pu)) with
    | .nx ρ => match (ρ[0]? : Option Sl) with
      | some (.ow true us') => .ret (.pu dN) us'
      | _ => .no
    | .rt r ρ => match (ρ[0]? : Option Sl) with
      | some (.ow true us') => .ret r us'
      | _ => .no
    | .ex x ρ => match (ρ[0]? : Option Sl) with
      | some (.ow true us') => .ex x us'
      | _ => .no
    | _ => .no
def runI (T : Tab) (call : Calls) (C : Str) (f : FnI) (ds : List Dat) : FR := match f.full 1 ds with
  | none => .no
  | some as => match evSs f.body (T.sc f call) (f.start (.ob C [] [] :: as.map .pu)) with
    | .nx ρ => match (ρ[0]? : Option Sl) with
      | some (.ob D ks es) => if D == C then .ret (.pu (.ins C ks es)) else .no
      | _ => .no
    | .ex x _ => .ex x
    | _ => .no
def calls0 : Calls := ⟨fun _ _ => .no, fun _ _ _ => .no, fun _ _ _ => .no, fun _ _ => .no⟩
def evD (T : Tab) : Nat → Calls
  | 0 => calls0
  | n + 1 => ⟨fun x ds => match T.fn x with
      | some f => runF T (evD T n) f ds
      | none => .no,
    fun x us ds => match T.fn x with
      | some f => runN T (evD T n) f us ds
      | none => .no,
    fun C m ds => match T.mt C m with
      | some f => runF T (evD T n) f ds
      | none => .no,
    fun C ds => match T.mt C "__init__" with
      | some f => runI T (evD T n) C f ds
      | none => .no⟩
end Sf
namespace Sf
open PySem L2

theorem ty_tyd {K : PySem.W.Frag} {d : Dat} {t : Ty} (h : tyOf d = some t) : TyD K d (tyV K t) := by
  cases d with
  | v x => cases x <;> simp [tyOf] at h <;> subst h <;> constructor
  | lst xs => simp [tyOf] at h; subst h; constructor
  | rol xs => simp [tyOf] at h; subst h; constructor
  | tup xs => simp [tyOf] at h; subst h; constructor
  | ins C ks xs => simp [tyOf] at h; subst h; constructor
/-- what must be true of the program's names -/
structure KOk (P : Program) (w : World) (K : PySem.W.Frag) (mg : Str → Option Value) (base : Heap) (A : Around) (L : Lk) : Prop where
  fn : ∀ x, L.kind x = .fn → ∀ m, ∃ l dd s, Room (l + 2) A ∧ Fg P w K mg base x l dd s ∧ ∀ ds Pd R, ds.length = m → (L.call.fn x ds).post Pd R → s (ds ++ dd.map Dat.v) Pd R
  fnN : ∀ x, L.kind x = .fnN → ∃ l s, Room (l + 2) A ∧ FgN P w K mg base x l s ∧ ∀ us ds Pd R, (L.call.fnN x us ds).post Pd R → s us ds Pd R
  mt : ∀ C m, L.hasM C m = true → ∀ k, ∃ l dd s, Room (l + 2) A ∧ Mg P w K mg base (He.ga K C) m l dd s ∧ ∀ ds Pd R, ds.length = k → (L.call.mt C m ds).post Pd R → s (ds ++ dd.map Dat.v) Pd R
  mo : ∀ C m k, L.hasO C m k = true → ∃ l s, Room (l + 2) A ∧ Mg P w K mg base (He.ga K C) m l [] s ∧ ∀ ds Pd R, ds.length = k → (L.call.mt C m ds).post Pd R → s ds Pd R
  mkI : ∀ x, L.kind x = .cls → ∀ m, ∃ l dd s, Room (l + 2) A ∧ Kg P w K mg base x l dd s ∧ ∀ ds (Pd : Dat → Prop) R, ds.length = m → (L.call.mkI x ds).post (fun r => Pd r.dat) R → s (ds ++ dd.map Dat.v) Pd R
  cls : ∀ C, L.isC C = true → ClsI K (He.ga K C)
  cm : ∀ C m, L.hasM C m = true → L.isC C = true
  co : ∀ C m k, L.hasO C m k = true → L.isC C = true
  fld : ∀ C f, L.isF C f = true → L.isC C = true ∧ NoAttr K (He.ga K C) f
  sf : ∀ C, L.isC C = true → PySem.W.selfFirst K (He.ga K C) = true
  nn : ∀ C D, L.isC C = true → L.isC D = true → C ≠ D → He.ga K C ≠ He.ga K D ∧ PySem.W.subIn K (.ref (He.ga K D)) (.ref (He.ga K C)) = some false
  op2 : ∀ C (op : Operator) m, opN op = some m → L.hasO C m 2 = true → (∃ g, PySem.W.findIn K (.ref (He.ga K C)) (PySem.dunder op.info.2) = some (some (.ref g))) ∧ PySem.W.findIn K (.ref (He.ga K C)) (PySem.dunderR op.info.2) = some none
  nf : ∀ C t, L.isC C = true → knownT L.isC t = true → PySem.W.notFirst K (He.ga K C) (tyV K t) = true
  ne : ∀ C, L.isC C = true → PySem.W.findIn K (.ref (He.ga K C)) "__ne__" = some (some (.builtin "object.__ne__")) ∧ PySem.W.subIn K (.ref (He.ga K C)) (.type "object") = some true
  kit : ∀ t u, knownT L.isC t = true → knownT L.isC u = true → PySem.W.kitOne K (tyV K t) (tyV K u) = some (isaT t u)
  exc : ∀ x, L.kind x = .exc → ExcF K mg x
  exf : ∀ x f, L.kind x = .excF f → ∃ l, Room (l + 2) A ∧ ExF P w K mg base x f l
  exm : ∀ z x b, L.exm z x = some b → PySem.W.exmOne K (.ref (He.ga K z)) (.ref (He.ga K x)) = some b
  exg : ∀ x, isExcK (L.kind x) = true → mg x = some (.ref (He.ga K x))
  glI : ∀ x i, L.kind x = .int i → ∃ t, mg x = some (.int i t)
  glS : ∀ x z, L.kind x = .str z → ∃ t, mg x = some (.str z t)
  glT : ∀ x is, L.kind x = .tupI is → ∃ p, mg x = some (.ref p) ∧ ∀ H, SqT K H p (is.map V.int)
  glC : ∀ x, L.kind x = .cls → mg x = some (.ref (He.ga K x)) ∧ L.isC x = true
  blt : ∀ x, L.kind x = .blt → mg x = none
  imp : ∀ x id, L.kind x = .imp id → mg x = some (.builtin id)
  rm : L.rm = true → Room 3 A

section
variable {X : Cx} {W : WX} {R : RX} {e a b o : Expr} {es : List Expr} {ρ : List Sl} {P : PV} {pos : Pos} {L : Lk}
abbrev XK (X : Cx) (L : Lk) : Prop := KOk X.prog X.w X.K X.mg X.base X.A L
/-! ### two-place operations with whatever result -/
structure OpV (X : Cx) (W : WX) (R : RX) (f : Value → Value → Sem Value) (d1 d2 : Dat) (ρ : List Sl) (P : PV) : Prop where
  run : ∀ (pins : List (Addr × Obj)) (s : Shared) (σ : L2.St) (na : Option Addr) (F0 H0 F H : Hp) (x y : V) (v u : Value) (Q : VK), Inv X pins σ H s → Cur na F0 H0 F H → Env1 X.K ρ σ na H0 F H → ExcOk X.K W R na F0 H0 → Is X.K d1 x F → Is X.K d2 y F → RelV x v → RelV y u →
    (∀ r v ρ' F' H', Cur na F0 H0 F' H' → Env1 X.K ρ' σ na H0 F' H' → RvE X.K ρ' σ r v F' H' H0 → P r ρ' → Q v H') → wpAny (model X.prog X.w) X.A (f v u) (EP X pins σ Q) X.xe s
theorem OpD.v {f : Value → Value → Sem Value} {d1 d2 : Dat} (h : OpD X W R f d1 d2 ρ fun d ρ' => P (.pu d) ρ') : OpV X W R f d1 d2 ρ P :=
  ⟨fun pins s σ na F0 H0 F H x y v u Q I c n xo h1 h2 r1 r2 q => h.run pins s σ na F0 H0 F H x y v u Q I c n xo h1 h2 r1 r2 fun d v ρ' F' H' c' n' hd p => q _ v ρ' F' H' c' n' (.pu hd) p⟩
theorem wv_bin {op : Operator} (h : WE X W R a ρ fun d1 ρ1 => WE X W R b ρ1 fun d2 ρ2 => OpV X W R (binaryOp op) d1 d2 ρ2 P) : WV X W R (.BinOp a op b pos) ρ P :=
  ⟨fun pins s σ na F0 H0 F H Q I c n x q => wpAny_BinOp (by
    refine thn (h.run pins s σ na F0 H0 F H (fun x H1 => ∃ d1 ρ1 F1, Cur na F0 H0 F1 H1 ∧ Env1 X.K ρ1 σ na H0 F1 H1 ∧ Is X.K d1 x F1 ∧ WE X W R b ρ1 fun d2 ρ2 => OpV X W R (binaryOp op) d1 d2 ρ2 P) I c n x fun d v ρ' F' H' c' n' hd p => ⟨d, ρ', F', c', n', hd, p⟩) fun v s1 ⟨x1, H1, I1, r1, d1, ρ1, F1, c1, n1, h1, p1⟩ => ?_
    refine thn (p1.run pins s1 σ na F1 H0 F1 H1 (fun y H2 => ∃ d2 ρ2 F2, Cur na F1 H0 F2 H2 ∧ Env1 X.K ρ2 σ na H0 F2 H2 ∧ Is X.K d2 y F2 ∧ OpV X W R (binaryOp op) d1 d2 ρ2 P) I1 c1.re n1 (x.re c1) fun d v ρ' F' H' c' n' hd p => ⟨d, ρ', F', c', n', hd, p⟩) fun u s2 ⟨y, H2, I2, r2, d2, ρ2, F2, c2, n2, h2, p2⟩ => ?_
    exact p2.run pins s2 σ na F0 H0 F2 H2 x1 y v u Q I2 (c1.back c2) n2 x (h1.mono c2.ff) h2 r1 r2 q)⟩
theorem od_divW {i j : Int} {P : PD} (hc : CDivW i j) (p : P (dI (i / j)) ρ) : OpD X W R (binaryOp .FloorDiv) (dI i) (dI j) ρ P := od_I op_fdivW hc p
theorem od_divN {i j : Int} {P : PD} (hc : CDivN i j) (p : P (dI (i.fdiv j)) ρ) : OpD X W R (binaryOp .FloorDiv) (dI i) (dI j) ρ P := od_I op_fdivN hc p
theorem od_mulW {i j : Int} {P : PD} (hc : CMulW i j) (p : P (dI (i * j)) ρ) : OpD X W R (binaryOp .Mult) (dI i) (dI j) ρ P := od_I op_mulW hc p
theorem od_pow {i j : Int} {P : PD} (hc : CPow i j) (p : P (dI (i ^ j.toNat)) ρ) : OpD X W R (binaryOp .Pow) (dI i) (dI j) ρ P := od_I op_pow hc p
theorem s_binI {op : Operator} {i j z : Int} {P : PD} (h : binI op i j = some z) (p : P (dI z) ρ) : OpD X W R (binaryOp op) (dI i) (dI j) ρ P := by
  cases op <;> simp only [binI] at h
  case Add => cases h; exact od_add p
  case Sub => cases h; exact od_sub p
  case Mult =>
    split at h
    · rename_i hg; cases h; exact od_mulW (show CMulW i j from of_decide_eq_true (p := i.natAbs.log2 + j.natAbs.log2 < 1000000) hg) p
    · cases h
  case FloorDiv =>
    unfold divI at h
    split at h
    · rename_i hg; cases h; exact od_divW hg p
    · split at h
      · rename_i hg; cases h; exact od_divN hg p
      · cases h
  case Mod =>
    unfold modI at h
    split at h
    · rename_i hg; cases h; exact od_mod hg p
    · split at h
      · rename_i hg; cases h; exact od_modN hg p
      · cases h
  case Pow =>
    split at h
    · rename_i hg; cases h; exact od_pow hg p
    · cases h
  all_goals cases h
theorem od_catL {a b : List Dat} (hl : a.length + b.length ≤ 100000) (p : P (.fr (a ++ b)) ρ) : OpV X W R (binaryOp .Add) (.lst a) (.lst b) ρ P :=
  ⟨fun pins s σ na F0 H0 F H x y v u Q I c n xo h1 h2 r1 r2 q => by
    cases h1 with
    | lst ha hs =>
      cases h2 with
      | lst hb gs =>
        refine op_cat pins s σ H _ _ v u Q I r1 r2 ⟨_, _, _, _, rfl, rfl, c.fh _ _ ha, c.fh _ _ hb, ?_, fun p0 hp => ?_⟩
        · rw [← hs.length, ← gs.length]; exact Nat.le_trans hl (by decide)
        · rename_i vs1 _ vs2
          have st := Stp.junk (o := .lst (vs1 ++ vs2)) c.fh hp
          exact q (.fr (a ++ b)) (.ref p0) ρ F _ (c.stp st) (n.stp st) (.fr (not_there c hp) (fnone c.fh hp) upd_same (hs.append gs) (not_at n hp)) p⟩
theorem dund {op : Operator} {m : Str} (h : opN op = some m) : PySem.dunder op.info.2 = m := by
  cases op <;> simp [opN] at h <;> subst h <;> decide +kernel
theorem s_opB {op : Operator} {d1 d2 : Dat} (k : XK X L) (tk : Takes X W) (h : (opB L op d1 d2 ρ).post P R) : OpV X W R (binaryOp op) d1 d2 ρ P := by
  unfold opB at h
  split at h
  · obtain ⟨r, h1, h2⟩ := Oc.post_of.mp h
    rw [Option.map_eq_some_iff] at h1
    obtain ⟨z, h3, rfl⟩ := h1
    exact (s_binI h3 h2).v
  · split at h
    · split at h
      · rename_i hl; exact (od_cat hl h).v
      · exact h.elim
    · exact h.elim
  · split at h
    · split at h
      · rename_i hl; exact od_catL hl h
      · exact h.elim
    · exact h.elim
  · rename_i C ks fs D ls gs
    split at h
    · rename_i m hm
      split at h
      · rename_i hc
        obtain ⟨hc1, hc2⟩ := Bool.and_eq_true_iff.mp hc
        obtain ⟨l, s, hr, G, hs⟩ := k.mo C m 2 hc1
        have em := dund hm
        rw [Oc.post_pu] at h
        have h' := hs _ _ _ rfl (FR.post_ocD.mp h)
        rw [← em] at G
        by_cases hcd : C = D
        · subst hcd
          exact (od_own (P := fun d ρ => P (.pu d) ρ) G (k.sf C (k.co _ _ _ hc1)) (hr.mono (by omega)) tk h').v
        · have hd : L.hasO D m 2 = true := by
            rcases Bool.or_eq_true_iff.mp hc2 with z | z
            · exact absurd (by simpa using z) hcd
            · exact z
          obtain ⟨n1, n2⟩ := k.nn C D (k.co _ _ _ hc1) (k.co _ _ _ hd) hcd
          obtain ⟨_, o1⟩ := k.op2 C op m hm hc1
          obtain ⟨⟨g, o2⟩, o3⟩ := k.op2 D op m hm hd
          exact (od_own2 (P := fun d ρ => P (.pu d) ρ) G (k.sf C (k.co _ _ _ hc1)) (k.sf D (k.co _ _ _ hd)) n1 o1 o2 o3 n2 (hr.mono (by omega)) tk h').v
      · exact h.elim
    · exact h.elim
  · exact h.elim
theorem boolD_eq {d : Dat} {b : Bool} (h : boolD d = some b) : d = dB b := by
  unfold boolD at h
  split at h
  · cases h; rfl
  · cases h
theorem intD_eq {d : Dat} {b : Int} (h : intOf d = some b) : d = dI b := by
  unfold intOf at h
  split at h
  · cases h; rfl
  · cases h
theorem strD_eq {d : Dat} {b : Str} (h : strOf d = some b) : d = dS b := by
  unfold strOf at h
  split at h
  · cases h; rfl
  · cases h
theorem knows_ty {d : Dat} (h : L.knows d = true) : ∃ t, tyOf d = some t ∧ knownT L.isC t = true := by
  unfold Lk.knows at h
  cases e : tyOf d with
  | none => rw [e] at h; cases h
  | some t => rw [e] at h; exact ⟨t, rfl, h⟩
theorem eqT1_ok {d e : Dat} (k : XK X L) (tk : Takes X W) (r : Room 3 X.A) (h : eqT1 L d e = true) : EqW X 2 d e := by
  unfold eqT1 at h
  split at h
  · simp only [Bool.and_eq_true] at h
    exact eqW_v (r.mono (by decide)) h.1.1 h.1.2 h.2
  · rename_i C ks fs D ls gs
    simp only [Bool.and_eq_true] at h
    obtain ⟨⟨h1, h2⟩, h3⟩ := h
    have h1 := eq_of_beq h1
    subst h1
    obtain ⟨l, s, hr, G, hs⟩ := k.mo C "__eq__" 2 h2
    refine eqW_ins tk G hr (hs _ _ _ rfl ?_)
    split at h3
    · rename_i e0; rw [e0]; exact rfl
    · cases h3
  · cases h
theorem eqT2_ok {d e : Dat} (k : XK X L) (tk : Takes X W) (r : Room 3 X.A) (h : eqT2 L d e = true) : EqW X 1 d e := by
  unfold eqT2 at h
  split at h
  · obtain ⟨h1, h2⟩ := Bool.and_eq_true_iff.mp h
    exact eqW_tup (r.mono (by decide)) (eq_of_beq h1) fun p hp => eqT1_ok k tk r (List.all_eq_true.mp h2 p hp)
  · obtain ⟨D, n, m, g, r', w⟩ := (eqT1_ok k tk r h).ex
    exact ⟨D, n, m, g, r'.mono (by omega), w⟩
theorem s_eqO {d1 d2 : Dat} {PT : Bool → List Sl → Prop} (k : XK X L) (tk : Takes X W) (h : (eqO L d1 d2 ρ).post PT R) : OpD X W R (compareOp .Eq) d1 d2 ρ fun d ρ' => ∃ t, d = dB t ∧ PT t ρ' := by
  unfold eqO at h
  split at h
  · split at h
    · rename_i hs; exact od_eq hs ⟨_, rfl, h⟩
    · exact h.elim
  · rename_i as bs
    split at h
    · rename_i hc
      obtain ⟨hr, hc⟩ := Bool.and_eq_true_iff.mp hc
      obtain ⟨hl, ha⟩ := Bool.and_eq_true_iff.mp hc
      have r := k.rm hr
      exact od_eqT (r.mono (by decide)) (eq_of_beq hl) (fun p hp => eqT2_ok k tk r (List.all_eq_true.mp ha p hp)) ⟨true, rfl, h⟩
    · exact h.elim
  · rename_i d C ks fs
    split at h
    · rename_i hc
      obtain ⟨hc1, hc2⟩ := Bool.and_eq_true_iff.mp hc
      obtain ⟨l, s, hr, G, hs⟩ := k.mo C "__eq__" 2 hc1
      obtain ⟨t, ht, hk⟩ := knows_ty hc2
      rw [Oc.post_bind] at h
      have h' := hs _ _ _ rfl (FR.post_ocD.mp h)
      refine od_eqO G (hr.mono (by omega)) tk (ty_tyd ht) (k.nf C t (k.co _ _ _ hc1) hk) ?_
      have e : (fun r : Rv => (Oc.of (boolD r.dat) ρ).post PT R) = fun r => ∃ t, r.dat = dB t ∧ PT t ρ := by
        funext r
        rw [Oc.post_of]
        refine propext ⟨fun ⟨b, h1, h2⟩ => ⟨b, boolD_eq h1, h2⟩, fun ⟨b, h1, h2⟩ => ⟨b, by rw [h1]; rfl, h2⟩⟩
      rw [e] at h'
      exact h'
    · exact h.elim
  · exact h.elim
theorem s_neO {d1 d2 : Dat} {PT : Bool → List Sl → Prop} (k : XK X L) (tk : Takes X W) (h : (eqO L d1 d2 ρ).post (fun b ρ' => PT (!b) ρ') R) : OpD X W R (compareOp .NotEq) d1 d2 ρ fun d ρ' => ∃ t, d = dB t ∧ PT t ρ' := by
  unfold eqO at h
  split at h
  · split at h
    · rename_i hs; exact od_ne hs ⟨_, rfl, h⟩
    · exact h.elim
  · rename_i as bs
    split at h
    · rename_i hc
      obtain ⟨hr, hc⟩ := Bool.and_eq_true_iff.mp hc
      obtain ⟨hl, ha⟩ := Bool.and_eq_true_iff.mp hc
      have r := k.rm hr
      exact od_neT (r.mono (by decide)) (eq_of_beq hl) (fun p hp => eqT2_ok k tk r (List.all_eq_true.mp ha p hp)) ⟨false, rfl, h⟩
    · exact h.elim
  · rename_i d C ks fs
    split at h
    · rename_i hc
      obtain ⟨hc1, hc2⟩ := Bool.and_eq_true_iff.mp hc
      obtain ⟨l, s, hr, G, hs⟩ := k.mo C "__eq__" 2 hc1
      obtain ⟨t, ht, hk⟩ := knows_ty hc2
      obtain ⟨n1, n2⟩ := k.ne C (k.co _ _ _ hc1)
      rw [Oc.post_bind] at h
      have h' := hs _ _ _ rfl (FR.post_ocD.mp h)
      refine od_neO G (hr.mono (by omega)) tk (ty_tyd ht) (k.nf C t (k.co _ _ _ hc1) hk) n1 n2 ?_
      have e : (fun r : Rv => (Oc.of (boolD r.dat) ρ).post (fun b ρ' => PT (!b) ρ') R) = fun r => ∃ b, r.dat = dB b ∧ ∃ t, dB (!b) = dB t ∧ PT t ρ := by
        funext r
        rw [Oc.post_of]
        refine propext ⟨fun ⟨b, h1, h2⟩ => ⟨b, boolD_eq h1, _, rfl, h2⟩, fun ⟨b, h1, t, h2, h3⟩ => ⟨b, by rw [h1]; rfl, ?_⟩⟩
        cases h2
        exact h3
      rw [e] at h'
      exact h'
    · exact h.elim
  · exact h.elim
theorem isNon_ok {d : Dat} {b : Bool} (h : isNon d = some b) {K : PySem.W.Frag} : ∀ v F, Is K d v F → decide (v = .non) = b := by
  intro v F hi
  cases d with
  | v x =>
    have e := is_v hi
    subst e
    cases v <;> simp [isNon] at h <;> subst h <;> simp
  | lst xs => simp [isNon] at h; subst h; cases hi; simp
  | rol xs => simp [isNon] at h; subst h; cases hi; simp
  | tup xs => simp [isNon] at h; subst h; cases hi; simp
  | ins C ks xs => simp [isNon] at h; subst h; cases hi; simp
theorem s_cmpI {op : CmpOp} {i j : Int} {b : Bool} {P : PD} (h : cmpI op i j = some b) (p : P (dB b) ρ) : OpD X W R (compareOp op) (dI i) (dI j) ρ P := by
  cases op <;> simp only [cmpI] at h
  case Lt => cases h; exact od_lt p
  case LtE => cases h; exact od_le p
  case Gt => cases h; exact od_gt p
  case GtE => cases h; exact od_ge p
  all_goals cases h
theorem s_opC {op : CmpOp} {d1 d2 : Dat} {PT : Bool → List Sl → Prop} (k : XK X L) (tk : Takes X W) (h : (opC L op d1 d2 ρ).post PT R) : OpD X W R (compareOp op) d1 d2 ρ fun d ρ' => ∃ t, d = dB t ∧ PT t ρ' := by
  unfold opC at h
  split at h
  · exact s_eqO k tk h
  · rw [Oc.post_bind] at h
    exact s_neO k tk h
  · split at h
    · obtain ⟨b, h1, h2⟩ := Oc.post_of.mp h
      exact od_isN (fun v F hi => isNon_ok h1 v F hi) ⟨b, rfl, h2⟩
    · split at h
      · exact od_isB ⟨_, rfl, h⟩
      · exact h.elim
    · exact h.elim
  · split at h
    · rename_i es hq
      split at h
      · rename_i hc
        obtain ⟨c1, c2⟩ := Bool.and_eq_true_iff.mp hc
        refine od_in c1 ?_ c2 ⟨_, rfl, h⟩
        unfold seqOf at hq
        split at hq <;> cases hq <;> constructor
      · exact h.elim
    · exact h.elim
  · split at h
    · obtain ⟨b, h1, h2⟩ := Oc.post_of.mp h
      rw [Option.map_eq_some_iff] at h1
      obtain ⟨b', h3, rfl⟩ := h1
      exact od_notN (fun v F hi => isNon_ok h3 v F hi) ⟨_, rfl, h2⟩
    · split at h
      · exact od_notB ⟨_, rfl, h⟩
      · exact h.elim
    · exact h.elim
  · split at h
    · obtain ⟨b, h1, h2⟩ := Oc.post_of.mp h
      exact s_cmpI h1 ⟨b, rfl, h2⟩
    · exact h.elim
theorem OpD.imp {f : Value → Value → Sem Value} {d1 d2 : Dat} {P P' : PD} (h : OpD X W R f d1 d2 ρ P) (i : ∀ d ρ', P d ρ' → P' d ρ') : OpD X W R f d1 d2 ρ P' :=
  ⟨fun pins s σ na F0 H0 F H x y v u Q I c n xo h1 h2 r1 r2 q => h.run pins s σ na F0 H0 F H x y v u Q I c n xo h1 h2 r1 r2 fun d v ρ' F' H' c' n' hd p => q d v ρ' F' H' c' n' hd (i d ρ' p)⟩
end
end Sf
namespace Sf
open PySem L2
/-! ### what is written -/
theorem ixOf_get : ∀ {N : List Str} {x : Str} {i : Nat}, ixOf N x = some i → N[i]? = some x
  | [], _, _, h => by cases h
  | a :: as, x, i, h => by
    unfold ixOf at h
    split at h
    · rename_i e
      cases h
      simpa using e
    · rw [Option.map_eq_some_iff] at h
      obtain ⟨j, h1, rfl⟩ := h
      simpa using ixOf_get h1
theorem okN {x : Str} (h : okName x = true) : (x == ("__debug__" : Str)) = false ∧ (x == ("__classdict__" : Str)) = false ∧ x ≠ "__name__" := by
  unfold okName at h
  simp only [Bool.and_eq_true, Bool.not_eq_true'] at h
  obtain ⟨⟨h1, h2⟩, h3⟩ := h
  exact ⟨h1, h2, fun e => by rw [e] at h3; simp at h3⟩
theorem star_cons {e : Expr} {es : List Expr} (h : noStar (e :: es) = true) (env : Env) : starEach (e :: es) env = (false, eval e env) :: starEach es env ∧ noStar es = true := by
  cases e <;> first | exact ⟨rfl, h⟩ | cases h
theorem star_any : ∀ {es : List Expr} (pos : Pos) (env : Env), noStar es = true → (backTo pos (starEach es env)).any (·.1) = false
  | [], _, _, _ => rfl
  | e :: es, pos, env, h => by
    obtain ⟨h1, h2⟩ := star_cons h env
    rw [h1]
    exact star_any pos env h2
theorem star_all : ∀ {es : List Expr} (pos : Pos) (env : Env), noStar es = true → (backTo pos (starEach es env)).all (fun x => !x.1) = true
  | [], _, _, _ => rfl
  | e :: es, pos, env, h => by
    obtain ⟨h1, h2⟩ := star_cons h env
    rw [h1]
    show (!false && _) = true
    exact star_all pos env h2
theorem attr_plain {e : Expr} {f : Str} {env : Env} {whole : Sem Value} (h : plainO e = true) : attributeBase e f env whole = whole := by
  unfold attributeBase
  split
  · cases h
  · rfl
theorem ix_plain {b : Expr} (h : notSl b = true) : PlainIx b := by
  intro o i
  cases b <;> first | rfl | cases h
theorem sw_plain {e : Expr} {t : Option Expr} {l : Nat} {env : Env} (h : notComp e = true) : swapsWith e t l env = pure false := by
  cases e <;> first | rfl | cases h
theorem mark_plain {op : CmpOp} {b : Expr} (h : notSet b = true) : behindInMarks op b = false := by
  cases b <;> first | rfl | cases h
theorem fold_plain {e : Expr} {env : Env} (h : notSet e = true) (x : Value) : foldedSetIterable e env x = pure x := by
  cases e <;> first | rfl | cases h
theorem meth_form {o : Expr} {m : Str} {apos pos : Pos} {args : List Expr} {env : Env} (hs : noStar args = true) (hl : args.length < 20) (hp : plainO o = true) (hline : lineOk apos pos = true) :
    eval (.Call (.Attribute o m apos) args [] pos) env = (do
      let ov ← eval o env
      standAt apos.atName
      let (f, first) ← holding [ov] (getMethod ov m (plainOf o env))
      callWith pos f first (backTo pos (starEach args env)) (backToKw pos (keywordEach [] env))) := by
  have hf : methodCallForm (args.length + 0) (backTo pos (starEach args env)) (backToKw pos (keywordEach [] env)) = true := by
    unfold methodCallForm
    rw [star_all pos env hs]
    show (true && true && decide (args.length + 0 + 0 < 30)) = true
    rw [decide_eq_true (by omega)]
    rfl
  show (do
    let ov ← attributeBase o m env (eval o env)
    standAt apos.atName
    methodCall o m apos pos env ov (args.length + 0) (backTo pos (starEach args env)) (backToKw pos (keywordEach [] env))) = _
  rw [attr_plain hp]
  simp only [mcall_line hf hline]
/-! ### where one stands -/
structure CxOk (X : Cx) (c : SC) : Prop where
  N : X.N = c.N
  nd : X.N.Nodup
  sc : X.env.scope = c.sc
  calm : c.calm = true → X.calm = true
  kf : c.sc.kind = .function
  k : XK X c.toLk
section
variable {X : Cx} {W : WX} {R : RX} {ρ : List Sl} {P : PV} {c : SC}
theorem CxOk.slot (C : CxOk X c) {x : Str} {i : Nat} (h : c.slot x = some i) : X.N[i]? = some x ∧ Vis X.env.scope x ∧ (x == ("__debug__" : Str)) = false ∧ (x == ("__classdict__" : Str)) = false := by
  unfold SC.slot at h
  split at h
  · rename_i hb
    obtain ⟨h1, h2⟩ := Bool.and_eq_true_iff.mp hb
    obtain ⟨n1, n2, _⟩ := okN h1
    refine ⟨by rw [C.N]; exact ixOf_get h, ?_, n1, n2⟩
    rw [C.sc]
    unfold SC.isVar at h2
    split at h2
    · rename_i e; exact .inl e
    · rename_i e; exact .inr (.inl e)
    · rename_i e; exact .inr (.inr e)
    · cases h2
  · cases h
theorem CxOk.glob (C : CxOk X c) {x : Str} (h : c.glob x ≠ .no) : Gl X x ∧ (x == ("__debug__" : Str)) = false ∧ x ≠ "__name__" ∧ c.glob x = c.kind x := by
  unfold SC.glob at h ⊢
  split at h
  · rename_i hb
    obtain ⟨h1, h2⟩ := Bool.and_eq_true_iff.mp hb
    obtain ⟨n1, n2, n3⟩ := okN h1
    refine ⟨?_, n1, n3, rfl⟩
    show X.env.kindOf x = _
    unfold Env.kindOf
    rw [C.sc]
    unfold SC.isGl at h2
    split at h2
    · rename_i e; exact e
    · cases h2
  · exact absurd rfl h
/-- an own list looked at for good -/
theorem wv_frz {e : Expr} (i : Nat) {ds : List Dat} (hi : ρ[i]? = some (.ow false ds)) (h : WV X W R e (ρ.set i (.pu (.lst ds))) P) : WV X W R e ρ P :=
  ⟨fun pins s σ na F0 H0 F H Q I c n x q => by
    obtain ⟨F', c', n'⟩ := n.frz c hi
    exact h.run pins s σ na F0 H0 F' H Q I c' n' x q⟩
end
end Sf
namespace Sf
open PySem L2
section
variable {X : Cx} {W : WX} {R : RX} {ρ : List Sl} {P : PV} {c : SC} {e a b t o : Expr} {es : List Expr} {pos : Pos}
/-! ### rules with whatever result -/
theorem wv_ifx (h : WT X W R t ρ fun r ρ' => (r = true → WV X W R a ρ' P) ∧ (r = false → WV X W R b ρ' P)) : WV X W R (.IfExp t a b pos) ρ P :=
  .of (pe_ifExp (pt_U (W := W)) (pe_V (W := W)) (pe_V (W := W))) fun σ na F0 H0 F H Q c n x q => ⟨ρ, _, R, na, F0, H0, F, h, c, n, x, fun r ρ' F' H' c' n' p => by
    cases r with
    | true => exact iteT ⟨ρ', _, R, na, F0, H0, F', p.1 rfl, c', n', x, q⟩
    | false => exact iteF ⟨ρ', _, R, na, F0, H0, F', p.2 rfl, c', n', x, q⟩⟩
theorem wv_and {es : List Expr} (h : WE X W R a ρ fun d ρ' => ∃ t, d = dB t ∧ (t = true → WV X W R (.BoolOp .And (b :: es) pos) ρ' P) ∧ (t = false → P (.pu (dB false)) ρ')) : WV X W R (.BoolOp .And (a :: b :: es) pos) ρ P :=
  .of (pe_and (pe_U (W := W)) (pe_V (W := W))) fun σ na F0 H0 F H Q c n x q => ⟨ρ, _, R, na, F0, H0, F, h, c, n, x, fun d v ρ' F' H' c' n' hd ⟨t, e, p⟩ => by
    subst e
    cases t with
    | true => exact ⟨true, is_v hd, iteT ⟨ρ', _, R, na, F0, H0, F', p.1 rfl, c', n', x, q⟩⟩
    | false => exact ⟨false, is_v hd, iteF (q _ _ ρ' F' H' c' n' (.pu .v) (p.2 rfl))⟩⟩
theorem wv_or {es : List Expr} (h : WE X W R a ρ fun d ρ' => ∃ t, d = dB t ∧ (t = false → WV X W R (.BoolOp .Or (b :: es) pos) ρ' P) ∧ (t = true → P (.pu (dB true)) ρ')) : WV X W R (.BoolOp .Or (a :: b :: es) pos) ρ P :=
  .of (pe_or (pe_U (W := W)) (pe_V (W := W))) fun σ na F0 H0 F H Q c n x q => ⟨ρ, _, R, na, F0, H0, F, h, c, n, x, fun d v ρ' F' H' c' n' hd ⟨t, e, p⟩ => by
    subst e
    cases t with
    | true => exact ⟨true, is_v hd, iteT (q _ _ ρ' F' H' c' n' (.pu .v) (p.2 rfl))⟩
    | false => exact ⟨false, is_v hd, iteF ⟨ρ', _, R, na, F0, H0, F', p.1 rfl, c', n', x, q⟩⟩⟩
theorem wv_last {op : BoolOp} (h : WV X W R a ρ P) : WV X W R (.BoolOp op [a] pos) ρ P :=
  .of (pe_one (pe_V (W := W))) fun σ na F0 H0 F H Q c n x q => ⟨ρ, _, R, na, F0, H0, F, h, c, n, x, q⟩
/-- a test whose value is a bool -/
theorem wt_of {PT : Bool → List Sl → Prop} (h : WV X W R e ρ fun r ρ' => ∃ t, r.dat = dB t ∧ PT t ρ') (he : ∀ whole, isTrue e X.env whole = (do let v ← whole; standAt e.pos; holding [v] (truthy v))) : WT X W R e ρ PT := wt_val h.we he
theorem we_of {P : PD} (h : WV X W R e ρ fun r ρ' => P r.dat ρ') : WE X W R e ρ P := h.we
/-- a name -/
theorem s_name {x : Str} (C : CxOk X c) (h : (evE (.Name x pos) c ρ).post P R) : WV X W R (.Name x pos) ρ P := by
  simp only [evE] at h
  split at h
  · rename_i i hi
    obtain ⟨h1, h2, h3, h4⟩ := C.slot hi
    split at h
    · rename_i d hd
      exact (we_var i hd h h1 h2 h3 h4).wv
    · rename_i ds hd
      refine wv_frz i hd ((we_var i (d := .lst ds) ?_ h h1 h2 h3 h4).wv)
      rw [List.getElem?_set_self (List.getElem?_eq_some_iff.mp hd).1]
    · exact h.elim
  · have hg : ∀ {k : GK}, c.glob x = k → k ≠ .no → Gl X x ∧ (x == ("__debug__" : Str)) = false ∧ c.kind x = k := fun {k} e hk => by
      obtain ⟨g1, g2, g3, g4⟩ := C.glob (x := x) (by rw [e]; exact hk)
      exact ⟨g1, g2, by rw [← g4, e]⟩
    split at h
    · rename_i i hi
      obtain ⟨g1, g2, g3⟩ := hg hi (fun z => nomatch z)
      obtain ⟨t, ht⟩ := C.k.glI x i g3
      exact (we_glob (v := .int i) ht ⟨t, rfl⟩ h g1 g2).wv
    · rename_i i hi
      obtain ⟨g1, g2, g3⟩ := hg hi (fun z => nomatch z)
      obtain ⟨t, ht⟩ := C.k.glS x i g3
      exact (we_glob (v := .str i) ht ⟨t, rfl⟩ h g1 g2).wv
    · rename_i is hi
      obtain ⟨g1, g2, g3⟩ := hg hi (fun z => nomatch z)
      obtain ⟨p, hp, ht⟩ := C.k.glT x is g3
      refine (we_globT hp ht (fun F => ?_) h g1 g2).wv
      have : ∀ is : List Int, Isl X.K (is.map dI) (is.map V.int) F := fun is => by
        induction is with
        | nil => exact .nil
        | cons i is ih => exact .cons .v ih
      exact this is
    · exact h.elim
/-- -x -/
theorem wv_neg {L : Lk} (k : XK X L) (tk : Takes X W) (h : WE X W R a ρ fun d ρ1 => (negD L d ρ1).post P R) : WV X W R (.UnaryOp .USub a pos) ρ P := by
  refine ⟨fun pins s0 σ na F0 H0 F H Q I c n xo q => ?_⟩
  refine PyProof.Rows.UnaryOp_ (thn (h.run pins s0 σ na F0 H0 F H (fun x H1 => ∃ d ρ1 F1, Cur na F0 H0 F1 H1 ∧ Env1 X.K ρ1 σ na H0 F1 H1 ∧ Is X.K d x F1 ∧ (negD L d ρ1).post P R) I c n xo fun d v ρ' F' H' c' n' hd p => ⟨d, ρ', F', c', n', hd, p⟩) fun v s1 ⟨x, H1, I1, r1, d, ρ1, F1, c1, n1, h1, p⟩ => ?_)
  unfold negD at p
  split at p
  · rename_i i
    have e := is_v h1
    subst e
    exact un_neg pins s1 σ H1 _ v Q I1 r1 ⟨i, rfl, q _ _ ρ1 F1 H1 c1 n1 (.pu .v) p⟩
  · rename_i C ks fs
    split at p
    · rename_i hc
      obtain ⟨l, s, hr, G, hs⟩ := k.mo C "__neg__" 1 hc
      rw [Oc.post_pu] at p
      have h' := hs _ _ _ rfl (FR.post_ocD.mp p)
      have g1 := h1
      cases h1 with
      | ins ha hz hs1 =>
      cases r1
      obtain ⟨f, fd, ps, dv, Fn, hm, hb, hd⟩ := G.ex
      cases hd
      obtain ⟨mA, J, _⟩ := ins_get I1.hok (c1.fh _ _ ha)
      obtain ⟨od, J, _⟩ := J.look
      obtain ⟨mm, hF⟩ := I1.fr
      exact PySem.W.ksp_neg hF I1.ok.mod.kin J hm.at_ hm.fn (run_fnSD (us := [.ref _]) (vs := [.ref _]) Fn (hr.mono (by omega)) hb .nil (passAt tk σ) I1 (.cons rfl .nil) (lift_goD (P := fun d ρ => P (.pu d) ρ) (dd := []) (ds := [.ins C ks fs]) (vs := [.ref _]) h' (.cons g1 .nil) c1 n1 xo fun d v ρ' F' H' c' n' hd p => q _ v ρ' F' H' c' n' (.pu hd) p))
    · exact p.elim
  · exact p.elim
end
end Sf
namespace PySem.W
open PySem PySem.Calls PyProof.Rows
open Builtin Builtin.Str
section
variable {prog : Program} {w : World} {A : Around} {E : Value → Shared → Prop} {s : Shared} {K : Frag} {x C f : Addr} {ox : Obj} {od : Option Obj}
/-- str(x) by the __str__ of x's own class -/
theorem sf_str {Q : Value → Shared → Prop} (hu : A.units + 2 < cLine) (X : K.In s.heap) (I : InstAt s.heap x ox C od) (hs : findIn K (.ref C) "__str__" = some (some (.ref f))) (hf : isFn K (.ref f) = true)
    (h : wpAny (model prog w) A.in1.in1 (call (.ref f) [.ref x]) (fun v s' => ∃ y t, v = .str y t ∧ Q v s') E s) : wpAny (model prog w) A (call (.type "str") [.ref x]) Q E s := by
  have made : PySem.MeetsIn prog w (Builtin.«str.__new__» ⟨[.type "str", .ref x], []⟩) (fun A' R s' => A'.in1.units < cLine ∧ wpAny (model prog w) A'.in1 (callSpecial? (.ref x) "__str__") (fun r s1 => ∃ y t, r = some (.str y t) ∧ R (.ok (.ret (.str y t))) s1) (fun e s1 => R (.error e) s1) s') := by
    refine .of_wp fun A' R s' hh => ?_
    obtain ⟨u1, h1⟩ := hh
    rw [str_new_tree (.ref x)]
    have first : wpAny (model prog w) A'.in1 (Builtin.Str.strOf (.ref x)) (fun r s1 => R (.ok (.ret r)) s1) (fun e s1 => R (.error e) s1) s' := by
      unfold Builtin.Str.strOf
      have e0 : isExactStr (.ref x) = false := rfl
      rw [e0]
      refine wpAny_bind (m := cRoomFor _ _) (wpAny_cRoomFor u1 (wpAny_bind (m := callSpecial? _ _ _) (wpAny_mono h1 (fun r s1 hr => ?_) fun _ _ e => e)))
      obtain ⟨y, t, rfl, hq⟩ := hr
      exact wpAny_pure hq
    exact wpAny_bind (wpAny_pure (wpAny_bind (wpAny_of_eq isSubtype_str_str (wpAny_bind (wpAny_mono first (fun r s1 hr => wpAny_pure ⟨r, rfl, hr⟩) fun _ _ e => e)))))
  refine callType_newIn F.called_str (by decide) (F.typeCall_str_1 _) (F.newCall_str_1 _) (fun obj => F.args_object_init_2 obj _) F.entry_str_new made ⟨?_, ?_⟩
  · show A.units + 1 + 1 < cLine
    omega
  · refine special_fn X I hs (beq_iff_eq.mp hf) (wpAny_mono h (fun v s1 z => ?_) fun _ _ e => e)
    obtain ⟨y, t, rfl, q⟩ := z
    exact ⟨y, t, rfl, typeIs_str _ _ _, q⟩
end
end PySem.W
namespace Sf
open PySem L2
section
variable {X : Cx} {W : WX} {R : RX} {e a b t o : Expr} {es : List Expr} {ρ : List Sl} {P : PD} {PV' : PV} {c : SC} {pos p apos : Pos} {x m : Str} {l : Nat} {L : Lk}
theorem run_in2 {pins : List (Addr × Obj)} {σ : L2.St} {H : Hp} {s0 : Shared} {Q : VK} {us : List Value} {vs : List V} {f : Addr} {fd : FuncData} {ps : List Str} {sp : Sp} (F : FnOk X.prog X.w X.K X.mg X.base (L2.CX X.prog X.w) l f fd ps sp) (hr : Room l X.A.in1.in1) (hb : Binds X.K fd ps []) (tk : Takes X W)
    (I : Inv X pins σ H s0) (r : Vals vs us) (h : sp vs H Q (L2.WE W σ)) : wpAny (model X.prog X.w) X.A.in1.in1 (call (.ref f) us) (EP X pins σ Q) X.xe s0 := by
  have hl : us.length = ps.length := by rw [← r.length]; exact F.len _ _ _ _ h
  have b := hb s0 us I.kIn (by rw [List.append_nil]; exact hl)
  rw [List.append_nil] at b
  refine wpAny_call (codeAny_mono (F.run X.A.in1.in1 X.stack s0 H ⟨us, []⟩ us vs Q (L2.WE W σ) hr I.env0.in1.in1 b r h) fun r s' hq => ?_)
  cases r with
  | error e => exact passAt tk σ pins H s0 e s' I hq
  | ok fl =>
    cases fl with
    | ret u => exact I.after hq
    | next => exact False.elim hq
    | brk => exact False.elim hq
    | cont => exact False.elim hq
/-- str(x) of an own class with __str__ -/
theorem we_strO {q : Pos} (hm : X.mg "str" = none) (hr : Room (l + 2) X.A) (tk : Takes X W) (h : WA X W R [a] ρ fun ds ρ' => ∃ C ks fs s, ds = [.ins C ks fs] ∧ Mg X.prog X.w X.K X.mg X.base (He.ga X.K C) "__str__" l [] s ∧ s [.ins C ks fs] (fun r => ∃ y : Str, r.dat = dS y ∧ P (dS y) ρ') (fun x => R x ρ')) (hg : Gl X "str" := by rfl)
    (he : starEach [a] X.env = (false, eval a X.env) :: starEach [] X.env := by rfl) (hpl : (backTo pos (starEach [] X.env)).any (·.1) = false := by rfl) : WE X W R (.Call (.Name "str" q) [a] [] pos) ρ P := by
  refine ⟨fun pins s0 σ na F0 H0 F H Q I c n xo q => ?_⟩
  refine wpAny_Call_Name_kw (ld_blt I hg hm (show bootBuiltins "str" = some (.type "str") by decide +kernel) ?_ (by decide) (by decide))
  refine PyProof.Rows.callWith_type1 (thn (h.run pos pins s0 σ na F0 H0 F H (fun vs H1 => ∃ ds ρ1 F1, Cur na F0 H0 F1 H1 ∧ Env1 X.K ρ1 σ na H0 F1 H1 ∧ Isl X.K ds vs F1 ∧ ∃ C ks fs s, ds = [.ins C ks fs] ∧ Mg X.prog X.w X.K X.mg X.base (He.ga X.K C) "__str__" l [] s ∧ s [.ins C ks fs] (fun r => ∃ y : Str, r.dat = dS y ∧ P (dS y) ρ1) (fun x => R x ρ1)) I c n xo fun ds vs ρ' F' H' c' n' hi hs => ⟨ds, ρ', F', c', n', hi, hs⟩) fun us s1 hh => ?_) he hpl
  obtain ⟨vs, H1, I1, r, ds, ρ1, F1, c1, n1, hi, C, ks, fs, sp, rfl, G, hs⟩ := hh
  cases hi with
  | cons h1 h2 =>
  cases h2
  have g1 := h1
  cases h1 with
  | ins ha hz hs1 =>
  obtain ⟨u, rfl, ru⟩ := vals1 r
  cases ru
  obtain ⟨f, fd, ps, dv, Fn, hmm, hb, hd⟩ := G.ex
  cases hd
  obtain ⟨mA, J, _⟩ := ins_get I1.hok (c1.fh _ _ ha)
  obtain ⟨od, J, _⟩ := J.look
  refine PySem.W.sf_str (by have := hr.un; omega) I1.kIn J hmm.at_ hmm.fn ?_
  have z1 : lift X.K sp ([.ref _] ++ []) H1 (fun v H' => ∃ y : Str, v = .str y ∧ Q (.str y) H') (L2.WE W σ) :=
    lift_goD (dd := []) (P := fun d ρ' => ∃ y : Str, d = dS y ∧ P (dS y) ρ') (ds := [.ins C ks fs]) hs (.cons g1 .nil) c1 n1 xo fun d v ρ' F' H' c' n' hd ⟨b, e, p⟩ => by
      subst e
      exact ⟨b, is_v hd, q _ _ ρ' F' H' c' n' .v p⟩
  refine wpAny_mono (run_in2 (vs := [.ref _]) (us := [.ref _]) Fn hr.in1.in1 hb tk I1 (.cons rfl .nil) z1) (fun v s' z => ?_) fun _ _ e => e
  obtain ⟨v', H', I', rv, y, e, qq⟩ := z
  subst e
  obtain ⟨t, rfl⟩ := rv
  exact ⟨y, t, rfl, .str y, H', I', ⟨t, rfl⟩, qq⟩
/-- tuple(list) -/
theorem we_tupL {q : Pos} (hm : X.mg "tuple" = none) (h : WA X W R [a] ρ fun ds ρ' => ∃ es, ds = [.lst es] ∧ P (.tup es) ρ') (hg : Gl X "tuple" := by rfl)
    (he : starEach [a] X.env = (false, eval a X.env) :: starEach [] X.env := by rfl) (hpl : (backTo pos (starEach [] X.env)).any (·.1) = false := by rfl) : WE X W R (.Call (.Name "tuple" q) [a] [] pos) ρ P := by
  refine we_ct call_tuple_of hm (by decide +kernel) ⟨fun pos pins s σ na F0 H0 F H Q I c n x q => h.run pos pins s σ na F0 H0 F H Q I c n x fun ds vs ρ' F' H' c' n' hd p => q ds vs ρ' F' H' c' n' hd ?_⟩ hg (by decide) (by decide) he hpl
  obtain ⟨es, rfl, hp⟩ := p
  intro vs2 F2 H2 Q2 ex hi hq
  cases hi with
  | cons h1 h2 =>
    cases h2
    cases h1 with
    | @lst a0 _ us _ ha hs =>
      refine ⟨_, us, rfl, .inl ⟨.inl (.inl (ex _ _ ha)), fun l hl => ?_⟩⟩
      have st := Stp.new (o := .tup us) ex hl
      exact hq (.tup es) _ _ _ st (.tup (.inl (.inl upd_same)) (hs.mono st.ff)) hp
/-- list(e): a new list -/
theorem wv_list {q : Pos} (hm : X.mg "list" = none) (h : WA X W R [a] ρ fun ds ρ' => ∃ d es, ds = [d] ∧ SeqD d es ∧ PV' (.fr es) ρ') (hg : Gl X "list" := by rfl)
    (he : starEach [a] X.env = (false, eval a X.env) :: starEach [] X.env := by rfl) (hpl : (backTo pos (starEach [] X.env)).any (·.1) = false := by rfl) : WV X W R (.Call (.Name "list" q) [a] [] pos) ρ PV' :=
  .of (pe_callTy call_list_of hg hm (show bootBuiltins "list" = some (.type "list") by decide +kernel) (pa_U (W := W)) (by decide) (by decide) he hpl) fun σ na F0 H0 F H Q c n xo q => ⟨ρ, _, R, na, F0, H0, F, h, c, n, xo, fun ds vs ρ' F' H' c' n' hds ⟨d, es, e1, e2, p⟩ => by
    subst e1
    cases hds with
    | cons h1 h2 =>
    cases h2
    obtain ⟨a0, us, rfl, hs, hi⟩ := e2.sq c'.fh h1
    refine ⟨a0, us, rfl, hs, fun l hl => ?_⟩
    have st := Stp.junk (o := .lst us) c'.fh hl
    exact q (.fr es) _ ρ' F' _ (c'.stp st) (n'.stp st) (.fr (not_there c' hl) (fnone c'.fh hl) upd_same hi (not_at n' hl)) p⟩
theorem we_wv {P : PV} (h : WE X W R e ρ fun d ρ' => P (.pu d) ρ') : WV X W R e ρ P := h.wv
end
end Sf
namespace Sf
open PySem L2
section
variable {X : Cx} {W : WX} {R : RX} {e a b t o : Expr} {es : List Expr} {ρ : List Sl} {P : PV} {c : SC} {pos p apos : Pos} {x m : Str} {l : Nat} {L : Lk}
theorem glob_of (C : CxOk X c) {k : GK} (h : c.glob x = k) (hk : k ≠ .no) : Gl X x ∧ (x == ("__debug__" : Str)) = false ∧ x ≠ "__name__" ∧ c.kind x = k := by
  obtain ⟨g1, g2, g3, g4⟩ := C.glob (x := x) (by rw [h]; exact hk)
  exact ⟨g1, g2, g3, by rw [← g4, h]⟩
theorem s_fn (C : CxOk X c) (tk : Takes X W) (hx : c.glob x = .fn) (hs : noStar (a :: es) = true) (h : WA X W R (a :: es) ρ fun ds ρ1 => ds.length = (a :: es).length ∧ ((c.call.fn x ds).oc ρ1).post P R) : WV X W R (.Call (.Name x p) (a :: es) [] pos) ρ P := by
  obtain ⟨g1, g2, _, g3⟩ := glob_of C hx (fun z => nomatch z)
  obtain ⟨l, dd, s, hr, G, hq⟩ := C.k.fn x g3 (a :: es).length
  obtain ⟨s1, s2⟩ := star_cons hs X.env
  exact wv_call G (hr.mono (by omega)) tk (h.imp fun ds ρ' hh => hq ds _ _ hh.1 (FR.post_oc.mp hh.2)) g1 g2 s1 (star_any pos X.env s2)
theorem s_mk0 (C : CxOk X c) (tk : Takes X W) (hx : c.glob x = .cls) (h : ((c.call.mkI x []).ocD ρ).pu.post P R) : WV X W R (.Call (.Name x p) [] [] pos) ρ P := by
  obtain ⟨g1, g2, _, g3⟩ := glob_of C hx (fun z => nomatch z)
  obtain ⟨l, dd, s, hr, G, hq⟩ := C.k.mkI x g3 0
  exact (we_make0 (P := fun d ρ => P (.pu d) ρ) G (hr.mono (by omega)) tk (hq [] (fun d => P (.pu d) ρ) (fun x => R x ρ) rfl (FR.post_ocD.mp (Oc.post_pu.mp h))) g1 g2).wv
theorem s_mk (C : CxOk X c) (tk : Takes X W) (hx : c.glob x = .cls) (hs : noStar (a :: es) = true) (h : WA X W R (a :: es) ρ fun ds ρ1 => ds.length = (a :: es).length ∧ ((c.call.mkI x ds).ocD ρ1).pu.post P R) : WV X W R (.Call (.Name x p) (a :: es) [] pos) ρ P := by
  obtain ⟨g1, g2, _, g3⟩ := glob_of C hx (fun z => nomatch z)
  obtain ⟨l, dd, s, hr, G, hq⟩ := C.k.mkI x g3 (a :: es).length
  obtain ⟨s1, s2⟩ := star_cons hs X.env
  exact (we_make (P := fun d ρ => P (.pu d) ρ) G (hr.mono (by omega)) tk (h.imp fun ds ρ' hh => hq ds (fun d => P (.pu d) ρ') (fun x => R x ρ') hh.1 (FR.post_ocD.mp (Oc.post_pu.mp hh.2))) g1 g2 s1 (star_any pos X.env s2)).wv
theorem s_fnN {x1 : Str} {p1 : Pos} {i : Nat} (C : CxOk X c) (tk : Takes X W) (hx : c.glob x = .fnN) (hs : noStar es = true) (hi : c.slot x1 = some i) (hr0 : ∃ lb us, ρ[i]? = some (.ow lb us))
    (h : WA X W R es ρ fun ds ρ1 => ∃ lb us, ρ1[i]? = some (.ow lb us) ∧ (c.call.fnN x us ds).post (fun r us' => P r (ρ1.set i (.ow lb us'))) (fun z us' => R z (ρ1.set i (.ow lb us')))) : WV X W R (.Call (.Name x p) (.Name x1 p1 :: es) [] pos) ρ P := by
  obtain ⟨g1, g2, _, g3⟩ := glob_of C hx (fun z => nomatch z)
  obtain ⟨l, s, hr, G, hq⟩ := C.k.fnN x g3
  obtain ⟨h1, h2, h3, h4⟩ := C.slot hi
  exact wv_callN i G (hr.mono (by omega)) tk hr0 (h.imp fun ds ρ1 ⟨lb, us, e, hh⟩ => ⟨lb, us, e, hq us ds _ _ hh⟩) h1 h2 h3 h4 g1 g2 rfl (star_any pos X.env hs)
theorem s_meth (C : CxOk X c) (tk : Takes X W) (hs : noStar es = true) (hl : es.length < 20) (hp : plainO o = true) (hline : lineOk apos pos = true)
    (h : WE X W R o ρ fun d ρ1 => ∃ D ks fs, d = .ins D ks fs ∧ c.hasM D m = true ∧ m ∉ ks ∧ (es = [] → ((c.call.mt D m [.ins D ks fs]).oc ρ1).post P R) ∧ (es ≠ [] → WA X W R es ρ1 fun as ρ2 => as.length = es.length ∧ ((c.call.mt D m (.ins D ks fs :: as)).oc ρ2).post P R)) : WV X W R (.Call (.Attribute o m apos) es [] pos) ρ P := by
  have room : Room 2 X.A ∨ True := .inr trivial
  cases es with
  | nil =>
    refine ⟨fun pins s σ na F0 H0 F H Q I c0 n xo q => ?_⟩
    refine PySem.W.methodCall_KW (pl := plainOf o X.env) (thn (h.run pins s σ na F0 H0 F H (fun x H1 => ∃ d ρ1 F1, Cur na F0 H0 F1 H1 ∧ Env1 X.K ρ1 σ na H0 F1 H1 ∧ Is X.K d x F1 ∧ ∃ D ks fs, d = .ins D ks fs ∧ c.hasM D m = true ∧ m ∉ ks ∧ ((c.call.mt D m [.ins D ks fs]).oc ρ1).post P R) I c0 n xo fun d v ρ' F' H' c' n' hd pp => ?_) fun u s1 ⟨x, H1, I1, rx, d, ρ1, F1, c1, n1, hd, D, ks, fs, ed, hm, hk, hpp⟩ => ?_) (meth_form hs hl hp hline)
    · obtain ⟨D, ks, fs, e1, e2, e3, e4, _⟩ := pp
      exact ⟨d, ρ', F', c', n', hd, D, ks, fs, e1, e2, e3, e4 rfl⟩
    · subst ed
      obtain ⟨l, dd, sp, hr, G, hq⟩ := C.k.mt D m hm 1
      have g1 := hd
      cases hd with
      | ins ha hz hs0 =>
      obtain rfl : u = Value.ref _ := rx
      obtain ⟨f, fd, ps, dsv, Fn, hmm, hb, hdv⟩ := G.ex
      refine getmeth_ok I1 (c1.fh _ _ ha) (C.k.cls D (C.k.cm D m hm)).cl hmm (lookup_no hk _) ?_
      have sp1 := hq [.ins D ks fs] _ _ rfl (FR.post_oc.mp hpp)
      exact PySem.W.callWith_K0 (first := [.ref _]) I1.kIn hmm.kp (run_fnSD (us := [.ref _]) (vs := [.ref _]) Fn (hr.mono (by omega)) hb hdv (passAt tk σ) I1 (.cons rfl .nil) (lift_go (ds := [.ins D ks fs]) (vs := [.ref _]) (dd := dd) sp1 (.cons g1 .nil) c1 n1 xo q))
  | cons a es =>
    obtain ⟨s1, s2⟩ := star_cons hs X.env
    refine ⟨fun pins s σ na F0 H0 F H Q I c0 n xo q => ?_⟩
    refine PySem.W.methodCall_KW (pl := plainOf o X.env) (thn (h.run pins s σ na F0 H0 F H (fun x H1 => ∃ d ρ1 F1, Cur na F0 H0 F1 H1 ∧ Env1 X.K ρ1 σ na H0 F1 H1 ∧ Is X.K d x F1 ∧ ∃ D ks fs, d = .ins D ks fs ∧ c.hasM D m = true ∧ m ∉ ks ∧ WA X W R (a :: es) ρ1 fun as ρ2 => as.length = (a :: es).length ∧ ((c.call.mt D m (.ins D ks fs :: as)).oc ρ2).post P R) I c0 n xo fun d v ρ' F' H' c' n' hd pp => ?_) fun u s1' ⟨x, H1, I1, rx, d, ρ1, F1, c1, n1, hd, D, ks, fs, ed, hm, hk, hpp⟩ => ?_) (meth_form hs hl hp hline)
    · obtain ⟨D, ks, fs, e1, e2, e3, _, e4⟩ := pp
      exact ⟨d, ρ', F', c', n', hd, D, ks, fs, e1, e2, e3, e4 (fun z => nomatch z)⟩
    · subst ed
      obtain ⟨l, dd, sp, hr, G, hq⟩ := C.k.mt D m hm ((a :: es).length + 1)
      have g1 := hd
      cases hd with
      | ins ha hz hs0 =>
      obtain rfl : u = Value.ref _ := rx
      obtain ⟨f, fd, ps, dsv, Fn, hmm, hb, hdv⟩ := G.ex
      refine getmeth_ok I1 (c1.fh _ _ ha) (C.k.cls D (C.k.cm D m hm)).cl hmm (lookup_no hk _) ?_
      refine PySem.W.callWith_K (first := [.ref _]) (h₀ := X.base) I1.ok.mod.kin hmm.kp (thn (hpp.run pos pins s1' σ na F1 H0 F1 H1 (fun vs H2 => ∃ as ρ2 F2, Cur na F1 H0 F2 H2 ∧ Env1 X.K ρ2 σ na H0 F2 H2 ∧ Isl X.K as vs F2 ∧ as.length = (a :: es).length ∧ ((c.call.mt D m (.ins D ks fs :: as)).oc ρ2).post P R) I1 c1.re n1 (xo.re c1) fun as vs ρ2 F2 H2 c2 n2 hi ⟨e1, e2⟩ => ⟨as, ρ2, F2, c2, n2, hi, e1, e2⟩) fun us s2' ⟨vs, H2, I2, r, as, ρ2, F2, c2, n2, hi, e1, e2⟩ => ⟨I2.kIn, ?_⟩) s1 (star_any pos X.env s2)
      have sp1 := hq (.ins D ks fs :: as) _ _ (by rw [List.length_cons, e1]) (FR.post_oc.mp e2)
      exact run_fnSD (us := .ref _ :: us) (vs := .ref _ :: vs) Fn (hr.mono (by omega)) hb hdv (passAt tk σ) I2 (.cons rfl r) (lift_go (ds := .ins D ks fs :: as) (vs := .ref _ :: vs) (dd := dd) sp1 (.cons (g1.mono c2.ff) hi) (c1.back c2) n2 xo q)
end
end Sf
namespace Sf
open PySem L2 PySem.Spec PyProof.Rows
section
variable {X : Cx} {W : WX} {R : RX} {e a b t o tg : Expr} {es : List Expr} {ρ : List Sl} {P : PV} {c : SC} {pos p apos : Pos} {x m : Str} {l : Nat} {L : Lk} {PI' : List Dat → List Sl → Prop}
/-! ### what a loop walks -/
theorem iter_L {pins : List (Addr × Obj)} {σ : L2.St} {H : Hp} {sh : Shared} {ad : Addr} {ws : List V} {Rr : It → Hp → Prop} (inv : Inv X pins σ H sh) (sq : SqL X.K H ad ws) (wish : Rr (Itl X.K ad) H) :
    wpAny (model X.prog X.w) X.A (pyIter (.ref ad)) (PIE X pins σ tg Rr) X.xe sh := by
  obtain ⟨its, _, pl, _⟩ := inv.list sq
  have fresh := inv.fpOk (Nat.le_refl sh.heap.objs.size) (inv.hok.fresh (Nat.le_refl _))
  have inv2 := fun (h2 : Heap) (k : ∀ b o, sh.heap.get? b = some o → h2.get? b = some o) => inv.kept (t' := sh.toks) (h' := h2) k
  exact wpAny_pyIter_list pl.isList ⟨_, [sh.heap.objs.size], _, _, H, rfl, inv2 _ fun b o q => Heap.get?_push_of_some _ q, turn_list ad _,
    ⟨_, Heap.get?_push_size _ rfl, rfl, rfl⟩, fun b hb => by rw [List.mem_singleton.mp hb]; exact fresh, wish⟩
theorem iter_T {pins : List (Addr × Obj)} {σ : L2.St} {H : Hp} {sh : Shared} {ad : Addr} {ws : List V} {Rr : It → Hp → Prop} (inv : Inv X pins σ H sh) (sq : SqT X.K H ad ws) (wish : Rr (Itt X.K ad) H) :
    wpAny (model X.prog X.w) X.A (pyIter (.ref ad)) (PIE X pins σ tg Rr) X.xe sh := by
  obtain ⟨its, _, pt, _⟩ := inv.tuple sq
  have fresh := inv.fpOk (Nat.le_refl sh.heap.objs.size) (inv.hok.fresh (Nat.le_refl _))
  have inv2 := fun (h2 : Heap) (k : ∀ b o, sh.heap.get? b = some o → h2.get? b = some o) => inv.kept (t' := sh.toks) (h' := h2) k
  exact wpAny_pyIter_tuple (items := its.toArray) pt ⟨_, [sh.heap.objs.size], _, _, H, rfl, inv2 _ fun b o q => Heap.get?_push_of_some _ q, turn_tuple ad _,
    ⟨_, Heap.get?_push_size _ rfl, rfl, rfl⟩, fun b hb => by rw [List.mem_singleton.mp hb]; exact fresh, wish⟩
theorem seqOf_ok {d : Dat} {ds : List Dat} (h : seqOf d = some ds) : SeqD d ds := by
  unfold seqOf at h
  split at h <;> cases h <;> constructor
theorem wi_seq (h : WE X W R e ρ fun d ρ' => ∃ ds, seqOf d = some ds ∧ PI' ds ρ') : WI X W R tg e ρ PI' :=
  ⟨fun pins s σ na F0 H0 F H Q I c n xo q => by
    refine thn (h.run pins s σ na F0 H0 F H (fun v H1 => ∃ d ρ1 F1, Cur na F0 H0 F1 H1 ∧ Env1 X.K ρ1 σ na H0 F1 H1 ∧ Is X.K d v F1 ∧ ∃ ds, seqOf d = some ds ∧ PI' ds ρ1) I c n xo fun d v ρ' F' H' c' n' hd pp => ⟨d, ρ', F', c', n', hd, pp⟩) fun v s1 ⟨x, H1, I1, r1, d, ρ1, F1, c1, n1, hd, ds, hs, pp⟩ => ?_
    have hsq := seqOf_ok hs
    cases hsq with
    | lst =>
      cases hd with
      | lst ha hi =>
        cases r1
        exact iter_L I1 (.inl (.inl (c1.fh _ _ ha))) (q _ ds ρ1 F1 H1 c1 n1 (itd_list (.inl (.inl ha)) hi) pp)
    | rol =>
      cases hd with
      | rol ha hi =>
        cases r1
        exact iter_L I1 (c1.fh.sql ha) (q _ ds ρ1 F1 H1 c1 n1 (itd_list ha hi) pp)
    | tup =>
      cases hd with
      | tup ha hi =>
        cases r1
        exact iter_T I1 (c1.fh.sqt ha) (q _ ds ρ1 F1 H1 c1 n1 (itd_tup ha hi) pp)⟩
theorem isl1 {K : PySem.W.Frag} {i : Int} {F : Hp} {vs : List V} (h : Isl K [dI i] vs F) : vs = [.int i] := by
  cases h with
  | cons h1 h2 => cases h2; rw [is_v h1]
theorem isl2 {K : PySem.W.Frag} {i j : Int} {F : Hp} {vs : List V} (h : Isl K [dI i, dI j] vs F) : vs = [.int i, .int j] := by
  cases h with
  | cons h1 h2 => rw [is_v h1, isl1 h2]
theorem isl3 {K : PySem.W.Frag} {i j k : Int} {F : Hp} {vs : List V} (h : Isl K [dI i, dI j, dI k] vs F) : vs = [.int i, .int j, .int k] := by
  cases h with
  | cons h1 h2 => rw [is_v h1, isl2 h2]
theorem wi_rng (C : CxOk X c) (hx : c.glob "range" = .blt) (hs : noStar es = true) (hn : 1 ≤ es.length ∧ es.length ≤ 3) (h : WA X W R es ρ fun ds ρ' => ds.length = es.length ∧ ∃ is, rngI ds = some is ∧ PI' is ρ') : WI X W R tg (.Call (.Name "range" p) es [] pos) ρ PI' := by
  obtain ⟨g1, g2, _, g3⟩ := glob_of C hx (fun z => nomatch z)
  have hm := C.k.blt _ g3
  match es, hs, h, hn with
  | [], _, _, hn => exact absurd hn.1 (by decide)
  | [a], hs, h, _ =>
    obtain ⟨s1, _⟩ := star_cons hs X.env
    refine .of (pi_range1 g1 hm (pa_U (W := W)) s1) fun σ na F0 H0 F H Q c n xo q => ⟨ρ, _, R, na, F0, H0, F, h, c, n, xo, fun ds vs ρ' F' H' c' n' hd ⟨hl, is, hr, pp⟩ => ?_⟩
    unfold rngI at hr
    split at hr
    · split at hr
      · rename_i hb
        cases hr
        exact ⟨_, isl1 hd, (smI_of hb).1, (smI_of hb).2, q _ _ ρ' F' H' c' n' itd_rng pp⟩
      · cases hr
    · cases hl
    · cases hl
    · cases hr
  | [a, b], hs, h, _ =>
    obtain ⟨s1, s2⟩ := star_cons hs X.env
    obtain ⟨s3, _⟩ := star_cons s2 X.env
    refine .of (pi_range2 g1 hm (pa_U (W := W)) (by rw [s1, s3]; rfl) s3) fun σ na F0 H0 F H Q c n xo q => ⟨ρ, _, R, na, F0, H0, F, h, c, n, xo, fun ds vs ρ' F' H' c' n' hd ⟨hl, is, hr, pp⟩ => ?_⟩
    unfold rngI at hr
    split at hr
    · cases hl
    · split at hr
      · rename_i hb
        cases hr
        have hb := Bool.and_eq_true_iff.mp hb
        exact ⟨_, _, isl2 hd, ⟨(smI_of hb.1).1, (smI_of hb.1).2, (smI_of hb.2).1, (smI_of hb.2).2⟩, q _ _ ρ' F' H' c' n' itd_rng pp⟩
      · cases hr
    · cases hl
    · cases hr
  | [a, b, d], hs, h, _ =>
    obtain ⟨s1, s2⟩ := star_cons hs X.env
    refine .of (pi_range3 g1 hm (pa_U (W := W)) s1 (star_any pos X.env s2)) fun σ na F0 H0 F H Q c n xo q => ⟨ρ, _, R, na, F0, H0, F, h, c, n, xo, fun ds vs ρ' F' H' c' n' hd ⟨hl, is, hr, pp⟩ => ?_⟩
    unfold rngI at hr
    split at hr
    · cases hl
    · cases hl
    · split at hr
      · rename_i hb
        cases hr
        obtain ⟨b1, b2, b3, b4⟩ := hb
        exact ⟨_, _, -1, _, isl3 hd, RgC.neg (Int.le_trans (by decide) b1) (Int.lt_of_le_of_lt b2 (by decide)) (Int.le_trans (by decide) b3) (Int.lt_of_le_of_lt b4 (by decide)), q _ _ ρ' F' H' c' n' itd_rngC pp⟩
      · cases hr
    · cases hr
  | _ :: _ :: _ :: _ :: _, _, _, hn => exact absurd hn.2 (by simp)
theorem wi_enum {elts : List Expr} {kk : Nat} {tpos : Pos} (C : CxOk X c) (hx : c.glob "enumerate" = .blt) (hs : noStar [a] = true) (h : WA X W R [a] ρ fun ds ρ' => ∃ d is, ds = [d] ∧ enI d = some is ∧ PI' is ρ') : WI X W R (.Tuple elts kk tpos) (.Call (.Name "enumerate" p) [a] [] pos) ρ PI' := by
  obtain ⟨g1, g2, _, g3⟩ := glob_of C hx (fun z => nomatch z)
  obtain ⟨s1, _⟩ := star_cons hs X.env
  refine .of (pi_enumA g1 (C.k.blt _ g3) (pa_U (W := W)) s1) fun σ na F0 H0 F H Q c n xo q => ⟨ρ, _, R, na, F0, H0, F, h, c, n, xo, fun ds vs ρ' F' H' c' n' hd ⟨d, is, e1, e2, pp⟩ => ?_⟩
  subst e1
  unfold enI at e2
  split at e2
  · cases e2
    cases hd with
    | cons h1 h2 =>
    cases h2
    cases h1 with
    | lst ha hi => exact ⟨_, _, rfl, .inl ⟨.inl (.inl (c'.fh _ _ ha)), q _ _ ρ' F' H' c' n' (itd_enum (.inl (.inl ha)) hi) pp⟩⟩
  · cases e2
    cases hd with
    | cons h1 h2 =>
    cases h2
    cases h1 with
    | tup ha hi => exact ⟨_, _, rfl, .inr ⟨c'.fh.sqt ha, q _ _ ρ' F' H' c' n' (itd_enumT ha hi) pp⟩⟩
  · cases e2
theorem wi_zip {elts : List Expr} {kk : Nat} {tpos : Pos} (C : CxOk X c) (hx : c.glob "zip" = .blt) (hs : noStar [a, b] = true) (h : WA X W R [a, b] ρ fun ds ρ' => ∃ d1 d2 is, ds = [d1, d2] ∧ zipI d1 d2 = some is ∧ PI' is ρ') : WI X W R (.Tuple elts kk tpos) (.Call (.Name "zip" p) [a, b] [] pos) ρ PI' := by
  obtain ⟨g1, g2, _, g3⟩ := glob_of C hx (fun z => nomatch z)
  obtain ⟨s1, s2⟩ := star_cons hs X.env
  refine .of (RZ.pi_zipA g1 (C.k.blt _ g3) (pa_U (W := W)) s1 (star_any pos X.env s2)) fun σ na F0 H0 F H Q c n xo q => ⟨ρ, _, R, na, F0, H0, F, h, c, n, xo, fun ds vs ρ' F' H' c' n' hd ⟨d1, d2, is, e1, e2, pp⟩ => ?_⟩
  subst e1
  cases hd with
  | cons h1 h2 =>
  cases h2 with
  | cons h2 h3 =>
  cases h3
  unfold zipI at e2
  split at e2
  · cases e2
    cases h1 with
    | lst ha hi =>
    cases h2 with
    | lst hb hj => exact ⟨_, _, _, _, rfl, .inl ⟨.inl (.inl (c'.fh _ _ ha)), .inl (.inl (c'.fh _ _ hb)), q _ _ ρ' F' H' c' n' (itd_zip (.inl (.inl ha)) hi (.inl (.inl hb)) hj) pp⟩⟩
  · cases e2
    cases h1 with
    | tup ha hi =>
    cases h2 with
    | tup hb hj => exact ⟨_, _, _, _, rfl, .inr ⟨c'.fh.sqt ha, c'.fh.sqt hb, q _ _ ρ' F' H' c' n' (itd_zipT ha hi hb hj) pp⟩⟩
  · cases e2
end
end Sf
namespace Sf
open PySem L2
section
variable {X : Cx} {W : WX} {R : RX} {e a b t o tg : Expr} {es : List Expr} {ρ : List Sl} {P : PV} {c : SC} {pos p apos : Pos} {x m : Str} {l : Nat} {L : Lk}
/-! ### targets -/
def gOf (K : PySem.W.Frag) : Tg → TG
  | .one i => gName i
  | .many is => gTup K is.length (gNs is)
def tgSl : Tg → List Nat
  | .one i => [i]
  | .many is => is
/-- a slot that may be stored to -/
def StOk (X : Cx) (c : SC) (i : Nat) : Prop := ∀ y, c.tslot y = some i → X.N[i]? = some y ∧ Loc X.env.scope y ∧ (X.fn y = true ∨ X.env.scope.names.lookup y = some .local)
theorem pgs_of (nd : X.N.Nodup) : ∀ {es : List Expr} {is : List Nat}, tgNs c es = some is → (∀ i ∈ is, StOk X c i) → PGs X es (gNs is) ∧ (assignEach es X.env).length = is.length ∧ (assignEach es X.env).findIdx? (·.1) = none
  | [], is, h, _ => by
    simp only [tgNs] at h
    cases h
    exact ⟨pgs_nil, rfl, rfl⟩
  | .Name x p :: es, is, h, ok => by
    simp only [tgNs] at h
    split at h
    · rename_i i is' h1 h2
      cases h
      obtain ⟨g1, g2, g3⟩ := ok i List.mem_cons_self x h1
      obtain ⟨k1, k2, k3⟩ := pgs_of nd h2 fun j hj => ok j (List.mem_cons_of_mem _ hj)
      refine ⟨pgs_cons (pg_name nd g1 g2 g3) k1, by show _ + 1 = _ + 1; rw [k2], ?_⟩
      show List.findIdx? _ ((false, _) :: assignEach es X.env) = none
      rw [List.findIdx?_cons, k3]
      rfl
    · cases h
  | .BoolOp .. :: _, _, h, _ => by simp [tgNs] at h
  | .NamedExpr .. :: _, _, h, _ => by simp [tgNs] at h
  | .BinOp .. :: _, _, h, _ => by simp [tgNs] at h
  | .UnaryOp .. :: _, _, h, _ => by simp [tgNs] at h
  | .Lambda .. :: _, _, h, _ => by simp [tgNs] at h
  | .IfExp .. :: _, _, h, _ => by simp [tgNs] at h
  | .Dict .. :: _, _, h, _ => by simp [tgNs] at h
  | .Set .. :: _, _, h, _ => by simp [tgNs] at h
  | .ListComp .. :: _, _, h, _ => by simp [tgNs] at h
  | .SetComp .. :: _, _, h, _ => by simp [tgNs] at h
  | .DictComp .. :: _, _, h, _ => by simp [tgNs] at h
  | .GeneratorExp .. :: _, _, h, _ => by simp [tgNs] at h
  | .Await .. :: _, _, h, _ => by simp [tgNs] at h
  | .Yield .. :: _, _, h, _ => by simp [tgNs] at h
  | .YieldFrom .. :: _, _, h, _ => by simp [tgNs] at h
  | .Compare .. :: _, _, h, _ => by simp [tgNs] at h
  | .Call .. :: _, _, h, _ => by simp [tgNs] at h
  | .FormattedValue .. :: _, _, h, _ => by simp [tgNs] at h
  | .JoinedStr .. :: _, _, h, _ => by simp [tgNs] at h
  | .Constant .. :: _, _, h, _ => by simp [tgNs] at h
  | .Attribute .. :: _, _, h, _ => by simp [tgNs] at h
  | .Subscript .. :: _, _, h, _ => by simp [tgNs] at h
  | .Starred .. :: _, _, h, _ => by simp [tgNs] at h
  | .List .. :: _, _, h, _ => by simp [tgNs] at h
  | .Tuple .. :: _, _, h, _ => by simp [tgNs] at h
  | .Slice .. :: _, _, h, _ => by simp [tgNs] at h
theorem pg_of (nd : X.N.Nodup) (hc : X.calm = true) {t : Tg} (h : tgOf c tg = some t) (ok : ∀ i ∈ tgSl t, StOk X c i) : PG X tg (gOf X.K t) := by
  unfold tgOf at h
  split at h
  · rw [Option.map_eq_some_iff] at h
    obtain ⟨i, h1, rfl⟩ := h
    obtain ⟨g1, g2, g3⟩ := ok i (List.mem_singleton.mpr rfl) _ h1
    exact pg_name nd g1 g2 g3
  · rw [Option.map_eq_some_iff] at h
    obtain ⟨is, h1, rfl⟩ := h
    obtain ⟨k1, k2, k3⟩ := pgs_of nd h1 ok
    exact pg_tup hc k1 k2 k3
  · cases h
theorem tgd_of {K : PySem.W.Frag} {t : Tg} {d : Dat} {ρ ρ2 : List Sl} {Q : List Sl → Prop} (h : setTg t d ρ = some ρ2) (q : Q ρ2) : TgD K (gOf K t) d ρ Q := by
  unfold setTg at h
  split at h
  · cases h; exact tg_name _ q
  · split at h
    · rename_i hl; cases h; exact tg_tup hl.symm hl q
    · cases h
  · cases h
theorem tgb_of {K : PySem.W.Frag} {t : Tg} {d : Dat} {ρ ρ2 : List Sl} {vs : List Nat} {Q : List Sl → Prop} (h : setTg t d ρ = some ρ2) (hv : subsetV t vs = true) (q : Q ρ2) : TgB K (gOf K t) vs d ρ Q := by
  unfold setTg at h
  split at h
  · cases h
    exact tb_name _ (by simpa [subsetV] using hv) q
  · split at h
    · rename_i hl; cases h
      exact tb_tup hl.symm hl (fun i hi => by have := List.all_eq_true.mp hv i hi; simpa using this) q
    · cases h
  · cases h
/-! ### blocks -/
theorem ownOf_mem {N : List Str} {scope : Scope} {p : Str × Nat} (h : p ∈ ownOf N scope) : ∃ k, (p.1, k) ∈ scope.names ∧ (k = .local ∨ k = .cell) ∧ ixOf N p.1 = some p.2 := by
  unfold ownOf at h
  obtain ⟨y, h1, h2⟩ := List.mem_filterMap.mp h
  obtain ⟨n, k⟩ := y
  dsimp only at h2
  split at h2
  · rw [Option.map_eq_some_iff] at h2
    obtain ⟨i, h3, rfl⟩ := h2
    exact ⟨_, h1, .inl rfl, h3⟩
  · rw [Option.map_eq_some_iff] at h2
    obtain ⟨i, h3, rfl⟩ := h2
    exact ⟨_, h1, .inr rfl, h3⟩
  · cases h2
theorem CxOk.blk (C : CxOk X c) {scope : Scope} (hk : scope.kind = .function) (s : Shared) (H : Hp) (D : Addr) (cl : List (Str × Addr)) (fp : List Addr) : CxOk (X.blk s H scope (compEnvC scope cl D X.env) fp) (c.blk scope) :=
  ⟨C.N, C.nd, by show relS scope X.env.scope = relS scope c.sc; rw [C.sc], C.calm, hk, C.k⟩
theorem blk_st (C : CxOk X c) {scope : Scope} (ok : BlkOk X.N X.env.scope scope (ownOf c.N scope)) (s : Shared) (H : Hp) (D : Addr) (cl : List (Str × Addr)) (fp : List Addr) {i : Nat} (hi : i ∈ (ownOf c.N scope).map (·.2)) :
    StOk (X.blk s H scope (compEnvC scope cl D X.env) fp) (c.blk scope) i := by
  intro y hy
  obtain ⟨q, hq, rfl⟩ := List.mem_map.mp hi
  obtain ⟨k, h1, h2, h3⟩ := ownOf_mem hq
  have hN : X.N[q.2]? = some y := by
    unfold SC.tslot at hy
    split at hy
    · rw [C.N]; exact ixOf_get hy
    · cases hy
  have e : q.1 = y := by
    have := ixOf_get h3
    rw [← C.N, hN] at this
    exact (Option.some.inj this).symm
  subst e
  have hl : scope.names.lookup q.1 = some k := ok.uniq _ h1
  have kn : k ≠ .free := by rcases h2 with rfl | rfl <;> exact fun z => nomatch z
  have hr : (relS scope X.env.scope).names.lookup q.1 = some k := lookup_relS_keep kn hl
  refine ⟨hN, ?_, ?_⟩
  · rcases h2 with rfl | rfl
    · exact .inl hr
    · exact .inr hr
  · rcases h2 with rfl | rfl
    · exact .inr hr
    · refine .inl ?_
      show (scope.names.lookup q.1 == some NameKind.cell) = true
      rw [hl]
      rfl
end
end Sf
namespace Sf
open PySem L2
section
variable {X : Cx} {W : WX} {R : RX} {e a b t o tg : Expr} {es : List Expr} {ρ : List Sl} {P : PV} {c : SC} {pos p p1 p2 p3 apos : Pos} {x m y : Str} {l k0 : Nat} {L : Lk}
section
variable {P : PD}
/-- a class, by its name -/
theorem we_ty {x : Str} {T : String} (hm : X.mg x = none) (hv : bootBuiltins x = some (.type T)) (hp : P (.v (.ty T)) ρ) (hg : Gl X x := by rfl) (hn : x ≠ "__name__" := by decide) (hd : (x == ("__debug__" : Str)) = false := by decide) : WE X W R (.Name x pos) ρ P :=
  .of (pe_bltn (v := .ty T) hg hm hv rfl hn hd) fun σ na F0 H0 F H Q c n x q => q _ _ ρ F H c n .v hp
theorem we_cls {x : Str} {C : Addr} (hm : X.mg x = some (.ref C)) (hp : P (.v (.ref C)) ρ) (hg : Gl X x := by rfl) (hd : (x == ("__debug__" : Str)) = false := by decide) : WE X W R (.Name x pos) ρ P := we_glob (v := .ref C) hm rfl hp hg hd
end
/-! ### calls of built-in functions -/
theorem clsOf_ok (C : CxOk X c) {u : Ty} (h : clsOf c y = some u) {P : PD} (hp : ∀ v, ClsV v (tyV X.K u) → P (.v v) ρ) : WE X W R (.Name y p) ρ P ∧ knownT c.isC u = true := by
  unfold clsOf at h
  split at h
  · rename_i hg
    obtain ⟨g1, g2, g3, g4⟩ := glob_of C hg (fun z => nomatch z)
    obtain ⟨h1, h2⟩ := C.k.glC y g4
    cases h
    exact ⟨we_cls h1 (hp _ (.own _)) g1 g2, h2⟩
  · rename_i hg
    obtain ⟨g1, g2, g3, g4⟩ := glob_of C hg (fun z => nomatch z)
    have hm := C.k.blt y g4
    split at h
    · rename_i e; cases h; have e := eq_of_beq e; subst e; exact ⟨we_ty (T := "int") hm (by decide +kernel) (hp _ (.ty _)) g1 g3 g2, rfl⟩
    · split at h
      · rename_i e; cases h; have e := eq_of_beq e; subst e; exact ⟨we_ty (T := "bool") hm (by decide +kernel) (hp _ (.ty _)) g1 g3 g2, rfl⟩
      · split at h
        · rename_i e; cases h; have e := eq_of_beq e; subst e; exact ⟨we_ty (T := "str") hm (by decide +kernel) (hp _ (.ty _)) g1 g3 g2, rfl⟩
        · split at h
          · rename_i e; cases h; have e := eq_of_beq e; subst e; exact ⟨we_ty (T := "list") hm (by decide +kernel) (hp _ (.ty _)) g1 g3 g2, rfl⟩
          · split at h
            · rename_i e; cases h; have e := eq_of_beq e; subst e; exact ⟨we_ty (T := "tuple") hm (by decide +kernel) (hp _ (.ty _)) g1 g3 g2, rfl⟩
            · cases h
  · cases h
theorem ins_cls (C : CxOk X c) {d : Dat} {t : Ty} (ht : tyOf d = some t) (hk : knownT c.isC t = true) : ∀ D ks fs, d = .ins D ks fs → ClsI X.K (He.ga X.K D) := fun D ks fs e => by
  subst e
  cases ht
  exact C.k.cls D hk
theorem s_isa (C : CxOk X c) (hx : c.glob "isinstance" = .blt) (hs : noStar [e, .Name y p1] = true) (h : WE X W R e ρ fun d ρ1 => ∃ bb, isaD c d [y] = some bb ∧ P (.pu (dB bb)) ρ1) : WV X W R (.Call (.Name "isinstance" p) [e, .Name y p1] [] pos) ρ P := by
  obtain ⟨g1, g2, _, g3⟩ := glob_of C hx (fun z => nomatch z)
  obtain ⟨s1, s2⟩ := star_cons hs X.env
  refine (we_isi (P := fun d ρ => P (.pu d) ρ) (C.k.blt _ g3) (wa_cons (h.imp fun d ρ1 ⟨bb, h1, hp⟩ => ?_) s1) g1 s1 (star_any pos X.env s2)).wv
  unfold isaD at h1
  cases ht : tyOf d with
  | none => rw [ht] at h1; cases h1
  | some t =>
    rw [ht] at h1
    dsimp only at h1
    split at h1
    · rename_i hk
      rw [Option.map_eq_some_iff] at h1
      obtain ⟨u, h2, rfl⟩ := h1
      have hu := (clsOf_ok (X := X) (W := W) (R := R) (ρ := ρ1) (p := p1) C h2 (P := fun _ _ => True) (fun _ _ => trivial)).2
      refine wa_cons ((clsOf_ok C h2 (P := fun d' ρ' => WA X W R [] ρ' fun ds ρ'' => ∃ d0 c0 t0 u0 bb, d :: (d' :: ds) = [d0, .v c0] ∧ TyD X.K d0 t0 ∧ (∀ C ks fs, d0 = .ins C ks fs → ClsI X.K (He.ga X.K C)) ∧ ClsV c0 u0 ∧ PySem.W.kitOne X.K t0 u0 = some bb ∧ P (.pu (dB bb)) ρ'') fun v hv => wa_nil ⟨d, v, tyV X.K t, tyV X.K u, isaT t u, rfl, ty_tyd ht, ins_cls C ht hk, hv, C.k.kit t u hk hu, hp⟩).1) rfl
    · cases h1
theorem s_isaLT {ts : List Expr} (C : CxOk X c) (hx : c.glob "isinstance" = .blt) (hl : c.glob "list" = .blt) (ht : c.glob "tuple" = .blt) (hts : isLT ts = true) (hs : noStar [e, .Tuple ts k0 p3] = true) (h : WE X W R e ρ fun d ρ1 => ∃ t, tyOf d = some t ∧ knownT c.isC t = true ∧ P (.pu (dB (decide (t = .lst) || decide (t = .tup)))) ρ1) : WV X W R (.Call (.Name "isinstance" p) [e, .Tuple ts k0 p3] [] pos) ρ P := by
  obtain ⟨g1, g2, _, g3⟩ := glob_of C hx (fun z => nomatch z)
  obtain ⟨l1, l2, _, l3⟩ := glob_of C hl (fun z => nomatch z)
  obtain ⟨t1, t2, _, t3⟩ := glob_of C ht (fun z => nomatch z)
  unfold isLT at hts
  split at hts
  · rename_i a q1 b q2
    obtain ⟨e1, e2⟩ := Bool.and_eq_true_iff.mp hts
    have e1 := eq_of_beq e1
    have e2 := eq_of_beq e2
    subst e1
    subst e2
    obtain ⟨s1, s2⟩ := star_cons hs X.env
    refine (we_isiLT (P := fun d ρ => P (.pu d) ρ) (C.k.blt _ g3) (C.k.blt _ l3) (C.k.blt _ t3) (h.imp fun d ρ1 ⟨t, h1, hk, hp⟩ => ⟨tyV X.K t, _, ty_tyd h1, ins_cls C h1 hk, ?_, hp⟩) g1 l1 t1 s1 rfl rfl rfl (star_any pos X.env s2)).wv
    have kl := C.k.kit t .lst hk rfl
    have kt := C.k.kit t .tup hk rfl
    have bl : isaT t .lst = decide (t = .lst) := by unfold isaT; cases t <;> simp
    have bt : isaT t .tup = decide (t = .tup) := by unfold isaT; cases t <;> simp
    rw [bl] at kl
    rw [bt] at kt
    refine kitAny_cons kl (fun z => ?_) (fun z => by rw [z]; rfl)
    rw [z]
    exact kitAny_cons kt (fun z2 => by rw [z2]; rfl) (fun z2 => by rw [z2]; rfl)
  · cases hts
theorem s_blt1 {f : Str} (C : CxOk X c) (hx : c.glob f = .blt) (hf : (f == "len" || f == "abs" || f == "tuple") = true) (hs : noStar [a] = true) (h : WA X W R [a] ρ fun ds ρ1 => ∃ d v, ds = [d] ∧ blt1 f d = some v ∧ P (.pu v) ρ1) : WV X W R (.Call (.Name f p) [a] [] pos) ρ P := by
  obtain ⟨g1, g2, gn, g3⟩ := glob_of C hx (fun z => nomatch z)
  have hm := C.k.blt _ g3
  obtain ⟨s1, s2⟩ := star_cons hs X.env
  have s3 := star_any pos X.env s2
  by_cases h1 : f = "len"
  · subst h1
    refine (we_len (P := fun d ρ => P (.pu d) ρ) hm (h.imp fun ds ρ1 ⟨d, v, e1, e2, hp⟩ => ?_) g1 s1 s3).wv
    unfold blt1 at e2
    rw [if_pos (by decide), Option.map_eq_some_iff] at e2
    obtain ⟨es, e3, rfl⟩ := e2
    exact ⟨d, es, e1, seqOf_ok e3, hp⟩
  by_cases h2 : f = "abs"
  · subst h2
    refine (we_abs (P := fun d ρ => P (.pu d) ρ) hm (h.imp fun ds ρ1 ⟨d, v, e1, e2, hp⟩ => ?_) g1 s1 s3).wv
    unfold blt1 at e2
    rw [if_neg (by decide), if_pos (by decide), Option.map_eq_some_iff] at e2
    obtain ⟨i, e3, rfl⟩ := e2
    exact ⟨i, by rw [e1, intD_eq e3], hp⟩
  by_cases h3 : f = "tuple"
  · subst h3
    refine (we_tupL (P := fun d ρ => P (.pu d) ρ) hm (h.imp fun ds ρ1 ⟨d, v, e1, e2, hp⟩ => ?_) g1 s1 s3).wv
    unfold blt1 at e2
    rw [if_neg (by decide), if_neg (by decide), if_pos (by decide)] at e2
    split at e2
    · cases e2; exact ⟨_, e1, hp⟩
    · cases e2
  · exfalso
    have b1 : (f == ("len" : Str)) = false := by simpa using h1
    have b2 : (f == ("abs" : Str)) = false := by simpa using h2
    have b3 : (f == ("tuple" : Str)) = false := by simpa using h3
    rw [b1, b2, b3] at hf
    cases hf
theorem s_list (C : CxOk X c) (hx : c.glob "list" = .blt) (hs : noStar [a] = true) (h : WA X W R [a] ρ fun ds ρ1 => ∃ d es, ds = [d] ∧ listD d = some es ∧ P (.fr es) ρ1) : WV X W R (.Call (.Name "list" p) [a] [] pos) ρ P := by
  obtain ⟨g1, g2, gn, g3⟩ := glob_of C hx (fun z => nomatch z)
  obtain ⟨s1, s2⟩ := star_cons hs X.env
  exact wv_list (C.k.blt _ g3) (h.imp fun ds ρ1 ⟨d, es, e1, e2, hp⟩ => ⟨d, es, e1, seqOf_ok e2, hp⟩) g1 s1 (star_any pos X.env s2)
theorem s_min (C : CxOk X c) (hc : X.calm = true) (hx : c.glob "min" = .blt) (hs : noStar [a, b] = true) (h : WA X W R [a, b] ρ fun ds ρ1 => ∃ d1 d2 v, ds = [d1, d2] ∧ blt2 "min" d1 d2 = some v ∧ P (.pu v) ρ1) : WV X W R (.Call (.Name "min" p) [a, b] [] pos) ρ P := by
  obtain ⟨g1, g2, gn, g3⟩ := glob_of C hx (fun z => nomatch z)
  obtain ⟨s1, s2⟩ := star_cons hs X.env
  refine (we_min2 (P := fun d ρ => P (.pu d) ρ) hc (C.k.blt _ g3) (h.imp fun ds ρ1 ⟨d1, d2, v, e1, e2, hp⟩ => ?_) g1 s1 (star_any pos X.env s2)).wv
  unfold blt2 at e2
  split at e2
  · rename_i i j h1 h2
    rw [if_pos (by decide)] at e2
    cases e2
    exact ⟨i, j, by rw [e1, intD_eq h1, intD_eq h2], hp⟩
  · cases e2
theorem s_max (C : CxOk X c) (hc : X.calm = true) (hx : c.glob "max" = .blt) (hs : noStar [a, b] = true) (h : WA X W R [a, b] ρ fun ds ρ1 => ∃ d1 d2 v, ds = [d1, d2] ∧ blt2 "max" d1 d2 = some v ∧ P (.pu v) ρ1) : WV X W R (.Call (.Name "max" p) [a, b] [] pos) ρ P := by
  obtain ⟨g1, g2, gn, g3⟩ := glob_of C hx (fun z => nomatch z)
  obtain ⟨s1, s2⟩ := star_cons hs X.env
  refine (we_max2 (P := fun d ρ => P (.pu d) ρ) hc (C.k.blt _ g3) (h.imp fun ds ρ1 ⟨d1, d2, v, e1, e2, hp⟩ => ?_) g1 s1 (star_any pos X.env s2)).wv
  unfold blt2 at e2
  split at e2
  · rename_i i j h1 h2
    rw [if_neg (by decide), if_pos (by decide)] at e2
    cases e2
    exact ⟨i, j, by rw [e1, intD_eq h1, intD_eq h2], hp⟩
  · cases e2
theorem s_gcd {f : Str} (C : CxOk X c) (hx : c.glob f = .imp "math.gcd") (hs : noStar [a, b] = true) (h : WA X W R [a, b] ρ fun ds ρ1 => ∃ d1 d2 v, ds = [d1, d2] ∧ imp2 "math.gcd" d1 d2 = some v ∧ P (.pu v) ρ1) : WV X W R (.Call (.Name f p) [a, b] [] pos) ρ P := by
  obtain ⟨g1, g2, gn, g3⟩ := glob_of C hx (fun z => nomatch z)
  obtain ⟨s1, s2⟩ := star_cons hs X.env
  refine (we_gcd (P := fun d ρ => P (.pu d) ρ) (C.k.imp _ _ g3) (h.imp fun ds ρ1 ⟨d1, d2, v, e1, e2, hp⟩ => ?_) g1 g2 s1 (star_any pos X.env s2)).wv
  unfold imp2 at e2
  split at e2
  · rename_i i j h1 h2
    rw [if_pos (by decide)] at e2
    cases e2
    exact ⟨i, j, by rw [e1, intD_eq h1, intD_eq h2], hp⟩
  · cases e2
/-- str(d): an int's digits, or what an own __str__ gives -/
theorem s_str (C : CxOk X c) (tk : Takes X W) (hx : c.glob "str" = .blt) (hs : noStar [a] = true) (h : WA X W R [a] ρ fun ds ρ1 => ∃ d, ds = [d] ∧ (strC c.toLk d ρ1).post (fun d ρ => P (.pu d) ρ) R) : WV X W R (.Call (.Name "str" p) [a] [] pos) ρ P := by
  obtain ⟨g1, g2, gn, g3⟩ := glob_of C hx (fun z => nomatch z)
  obtain ⟨s1, s2⟩ := star_cons hs X.env
  refine ⟨fun pins s0 σ na F0 H0 F H Q I cu n xo q => ?_⟩
  refine wpAny_Call_Name_kw (ld_blt I g1 (C.k.blt _ g3) (show bootBuiltins "str" = some (.type "str") by decide +kernel) ?_ (by decide) (by decide))
  refine PyProof.Rows.callWith_type1 (thn (h.run pos pins s0 σ na F0 H0 F H (fun vs H1 => ∃ d ρ1 F1, Cur na F0 H0 F1 H1 ∧ Env1 X.K ρ1 σ na H0 F1 H1 ∧ Isl X.K [d] vs F1 ∧ (strC c.toLk d ρ1).post (fun d ρ => P (.pu d) ρ) R) I cu n xo fun ds vs ρ' F' H' c' n' hi ⟨d, e, hp⟩ => by subst e; exact ⟨d, ρ', F', c', n', hi, hp⟩) fun us s1 hh => ?_) s1 (star_any pos X.env s2)
  obtain ⟨vs, H1, I1, r, d, ρ1, F1, c1, n1, hi, hp⟩ := hh
  cases hi with
  | cons h1 h2 =>
  cases h2
  obtain ⟨u, rfl, ru⟩ := vals1 r
  unfold strC at hp
  split at hp
  · rename_i D ks fs
    split at hp
    · rename_i hc
      obtain ⟨l, sp, hr, G, hq⟩ := C.k.mo D "__str__" 1 hc
      have g1 := h1
      cases h1 with
      | ins ha hz hs1 =>
      cases ru
      obtain ⟨f, fd, ps, dv, Fn, hmm, hb, hd⟩ := G.ex
      cases hd
      obtain ⟨mA, J, _⟩ := ins_get I1.hok (c1.fh _ _ ha)
      obtain ⟨od, J, _⟩ := J.look
      rw [Oc.post_bind] at hp
      have h' := hq _ _ _ rfl (FR.post_ocD.mp hp)
      refine PySem.W.sf_str (by have := hr.un; omega) I1.kIn J hmm.at_ hmm.fn ?_
      have ed : (fun r : Rv => (Oc.of ((strOf r.dat).map dS) ρ1).post (fun d ρ => P (.pu d) ρ) R) = fun r => ∃ y, r.dat = dS y ∧ P (.pu (dS y)) ρ1 := by
        funext r
        rw [Oc.post_of]
        refine propext ⟨fun ⟨b, e1, e2⟩ => ?_, fun ⟨y, e1, e2⟩ => ⟨dS y, by rw [e1]; rfl, e2⟩⟩
        rw [Option.map_eq_some_iff] at e1
        obtain ⟨y, e3, rfl⟩ := e1
        exact ⟨y, strD_eq e3, e2⟩
      rw [ed] at h'
      have z1 : lift X.K sp ([.ref _] ++ []) H1 (fun v H' => ∃ y : Str, v = .str y ∧ Q (.str y) H') (L2.WE W σ) :=
        lift_goD (dd := []) (P := fun d ρ' => ∃ y : Str, d = dS y ∧ P (.pu (dS y)) ρ') (ds := [.ins D ks fs]) h' (.cons g1 .nil) c1 n1 xo fun d v ρ' F' H' c' n' hd ⟨b, e, p⟩ => by
          subst e
          exact ⟨b, is_v hd, q _ _ ρ' F' H' c' n' (.pu .v) p⟩
      refine wpAny_mono (run_in2 (vs := [.ref _]) (us := [.ref _]) Fn (hr.in1.in1) hb tk I1 (.cons rfl .nil) z1) (fun v s' z => ?_) fun _ _ e => e
      obtain ⟨v', H', I', rv, y, e, qq⟩ := z
      subst e
      obtain ⟨t, rfl⟩ := rv
      exact ⟨y, t, rfl, .str y, H', I', ⟨t, rfl⟩, qq⟩
    · exact hp.elim
  · split at hp
    · rename_i hl
      have ev := is_v h1
      subst ev
      exact call_str_int pins _ σ H1 _ _ Q I1 (.cons ru .nil) ⟨_, rfl, hl, q _ _ ρ1 F1 H1 c1 n1 (.pu .v) hp⟩
    · exact hp.elim
  · exact hp.elim
/-- len of an own list -/
theorem s_lenO {i : Nat} {x1 : Str} {lb : Bool} {ds : List Dat} (C : CxOk X c) (hx : c.glob "len" = .blt) (hi : c.slot x1 = some i) (hr : ρ[i]? = some (.ow lb ds)) (hp : P (.pu (dI ds.length)) ρ) : WV X W R (.Call (.Name "len" p) [.Name x1 p1] [] pos) ρ P := by
  obtain ⟨g1, g2, gn, g3⟩ := glob_of C hx (fun z => nomatch z)
  obtain ⟨h1, h2, h3, h4⟩ := C.slot hi
  exact (we_lenO (P := fun d ρ => P (.pu d) ρ) i (C.k.blt _ g3) hr hp h1 h2 h3 h4 g1 rfl rfl).wv
theorem popD_eq {ds es : List Dat} {d : Dat} (h : popD ds = some (d, es)) : ds = es ++ [d] := by
  unfold popD at h
  split at h
  · cases h
  · rename_i d' es' e
    cases h
    have := congrArg List.reverse e
    simpa using this
theorem s_ownM {i : Nat} {x1 : Str} {args : List Expr} (C : CxOk X c) (hs : noStar args = true) (hline : lineOk apos pos = true) (hi : c.slot x1 = some i) (h : (ownM m args i ρ).post P R) : WV X W R (.Call (.Attribute (.Name x1 p1) m apos) args [] pos) ρ P := by
  obtain ⟨h1, h2, h3, h4⟩ := C.slot hi
  unfold ownM at h
  split at h
  · rename_i lb ds hr
    split at h
    · rename_i hm
      have hm := eq_of_beq hm
      subst hm
      split at h
      · split at h
        · rename_i d es hpop
          have e := popD_eq hpop
          subst e
          exact (we_popE (P := fun d ρ => P (.pu d) ρ) i hr h h1 h2 h3 h4 rfl hline).wv
        · exact h.elim
      · split at h
        · exact (we_pop0 (P := fun d ρ => P (.pu d) ρ) i hr h h1 h2 h3 h4 rfl rfl hline rfl rfl).wv
        · exact h.elim
      · exact h.elim
    · exact h.elim
  · exact h.elim
end
end Sf
namespace Sf
open PySem L2
/-! ### the evaluator tells what the machine does: expressions -/
def SndE (e : Expr) : Prop := ∀ (X : Cx) (W : WX) (R : RX) (c : SC) (ρ : List Sl) (P : PV), CxOk X c → Takes X W → (evE e c ρ).post P R → WV X W R e ρ P
def SndA (es : List Expr) : Prop := ∀ (X : Cx) (W : WX) (R : RX) (c : SC) (ρ : List Sl) (P : List Dat → List Sl → Prop), CxOk X c → Takes X W → noStar es = true → (evEs es c ρ).post P R → WA X W R es ρ fun ds ρ' => ds.length = es.length ∧ P ds ρ'
def SndT (e : Expr) : Prop := ∀ (X : Cx) (W : WX) (R : RX) (c : SC) (ρ : List Sl) (P : Bool → List Sl → Prop), CxOk X c → Takes X W → (evT e c ρ (evE e c ρ)).post P R → WT X W R e ρ P
section
variable {X : Cx} {W : WX} {R : RX} {e a b t o tg it : Expr} {es : List Expr} {ρ : List Sl} {P : PV} {c : SC} {pos p p1 apos : Pos}
theorem SndE.we (h : SndE e) (C : CxOk X c) (tk : Takes X W) {P : PD} (hp : (evE e c ρ).dat.post P R) : WE X W R e ρ P := (h X W R c ρ _ C tk (Oc.post_dat.mp hp)).we
theorem SndE.seq (h : SndE e) (C : CxOk X c) (tk : Takes X W) {β : Type} {f : Dat → List Sl → Oc β} {Q : β → List Sl → Prop} {P : PD} (hp : ((evE e c ρ).dat.bind f).post Q R) (i : ∀ d ρ1, (f d ρ1).post Q R → P d ρ1) : WE X W R e ρ P :=
  h.we C tk ((Oc.post_bind.mp hp).imp i)
theorem SndA.seq (h : SndA es) (C : CxOk X c) (tk : Takes X W) (hs : noStar es = true) {β : Type} {f : List Dat → List Sl → Oc β} {Q : β → List Sl → Prop} {P : List Dat → List Sl → Prop} (hp : ((evEs es c ρ).bind f).post Q R) (i : ∀ d ρ1, d.length = es.length → (f d ρ1).post Q R → P d ρ1) : WA X W R es ρ P :=
  (h X W R c ρ _ C tk hs (Oc.post_bind.mp hp)).imp fun ds ρ1 ⟨hl, h2⟩ => i ds ρ1 hl h2
theorem snd_nil : SndA [] := fun X W R c ρ P C tk hs h => by
  simp only [evEs] at h
  exact wa_nil ⟨rfl, h⟩
theorem snd_cons (he : SndE e) (hes : SndA es) : SndA (e :: es) := fun X W R c ρ P C tk hs h => by
  simp only [evEs] at h
  obtain ⟨s1, s2⟩ := star_cons hs X.env
  refine wa_cons (he.seq C tk h fun d ρ1 h1 => ?_) s1
  rw [Oc.post_bind] at h1
  refine (hes X W R c ρ1 _ C tk s2 h1).imp fun ds ρ2 ⟨hl, h2⟩ => ⟨by rw [List.length_cons, List.length_cons, hl], h2⟩
theorem snd_const {k : Const} {j : Nat} : SndE (.Constant k j pos) := fun X W R c ρ P C tk h => by
  simp only [evE] at h
  split at h
  · exact (we_int h).wv
  · exact (we_bl h).wv
  · exact (we_non h).wv
  · exact (we_str h).wv
  · exact h.elim
theorem snd_bin {op : Operator} (ha : SndE a) (hb : SndE b) : SndE (.BinOp a op b pos) := fun X W R c ρ P C tk h => by
  simp only [evE] at h
  exact wv_bin (ha.seq C tk h fun d1 ρ1 h1 => hb.seq C tk h1 fun d2 ρ2 h2 => s_opB C.k tk h2)
theorem snd_un {op : UnaryOp} (ha : SndE a) : SndE (.UnaryOp op a pos) := fun X W R c ρ P C tk h => by
  simp only [evE] at h
  split at h
  · exact wv_neg C.k tk (ha.seq C tk h fun d ρ1 h1 => h1)
  · refine (we_not (P := fun d ρ => P (.pu d) ρ) (ha.seq C tk h fun d ρ1 h1 => ?_)).wv
    obtain ⟨r, h2, h3⟩ := Oc.post_of.mp h1
    rw [Option.map_eq_some_iff] at h2
    obtain ⟨bb, h4, rfl⟩ := h2
    exact ⟨bb, boolD_eq h4, h3⟩
  · exact h.elim
theorem snd_ifx (ht : SndT t) (ha : SndE a) (hb : SndE b) : SndE (.IfExp t a b pos) := fun X W R c ρ P C tk h => by
  simp only [evE] at h
  rw [Oc.post_bind] at h
  refine wv_ifx (ht X W R c ρ _ C tk (h.imp fun r ρ1 h1 => ⟨fun e => ?_, fun e => ?_⟩))
  · rw [if_pos e] at h1; exact ha X W R c ρ1 P C tk h1
  · rw [if_neg (by rw [e]; exact Bool.false_ne_true)] at h1; exact hb X W R c ρ1 P C tk h1
theorem snd_attr {f : Str} (ha : SndE a) : SndE (.Attribute a f pos) := fun X W R c ρ P C tk h => by
  simp only [evE] at h
  split at h
  · rename_i hp
    refine (we_fld (P := fun d ρ => P (.pu d) ρ) (ha.seq C tk h fun d ρ1 h1 => ?_) (attr_plain hp)).wv
    split at h1
    · rename_i D ks fs
      split at h1
      · rename_i hf
        obtain ⟨r, h2, h3⟩ := Oc.post_of.mp h1
        rw [Option.map_eq_some_iff] at h2
        obtain ⟨d', h4, rfl⟩ := h2
        obtain ⟨k1, k2⟩ := C.k.fld D f hf
        exact ⟨D, ks, fs, d', rfl, (C.k.cls D k1).cl, k2, h4, h3⟩
      · exact h1.elim
    · exact h1.elim
  · exact h.elim
theorem ownV_eq {i : Nat} (h : ownV c e ρ = some i) : ∃ x p, e = .Name x p ∧ c.slot x = some i ∧ ∃ lb ds, ρ[i]? = some (.ow lb ds) := by
  unfold ownV at h
  split at h
  · rename_i x p
    split at h
    · rename_i j hj
      split at h
      · rename_i lb ds hr; cases h; exact ⟨x, p, rfl, hj, lb, ds, hr⟩
      · cases h
    · cases h
  · cases h
theorem item_eq {d1 d2 v : Dat} (h : itemD d1 d2 = some v) : ∃ ds j m, SeqD d1 ds ∧ d2 = dI j ∧ ixN ds.length j = some m ∧ ds[m]? = some v := by
  unfold itemD at h
  split at h
  · rename_i ds j h1 h2
    split at h
    · rename_i m hm; exact ⟨ds, j, m, seqOf_ok h1, intD_eq h2, hm, h⟩
    · cases h
  · cases h
theorem rev_eq {b : Expr} (h : isRev b = true) : ∃ kk p1 p2 p3, b = .Slice none none (some (.UnaryOp .USub (.Constant (.int 1) kk p1) p2)) p3 := by
  unfold isRev at h
  split at h
  · exact ⟨_, _, _, _, rfl⟩
  · cases h
theorem snd_sub (ha : SndE a) (hb : SndE b) : SndE (.Subscript a b pos) := fun X W R c ρ P C tk h => by
  simp only [evE] at h
  split at h
  · rename_i hsl
    split at h
    · rename_i i ho
      obtain ⟨x1, p1, rfl, hi, lb0, ds0, hr0⟩ := ownV_eq ho
      obtain ⟨g1, g2, g3, g4⟩ := C.slot hi
      refine (we_ixO (P := fun d ρ => P (.pu d) ρ) i (hb.seq C tk h fun d2 ρ2 h2 => ?_) ⟨lb0, ds0, hr0⟩ g1 g2 g3 g4 (ix_plain hsl)).wv
      split at h2
      · rename_i lb ds hr
        obtain ⟨r, h3, h4⟩ := Oc.post_of.mp h2
        rw [Option.map_eq_some_iff] at h3
        obtain ⟨v, h5, rfl⟩ := h3
        obtain ⟨es, j, m, k1, k2, k3, k4⟩ := item_eq h5
        cases k1
        exact ⟨lb, ds, j, m, v, hr, k2, k3, k4, h4⟩
      · exact h2.elim
    · refine (we_ix (P := fun d ρ => P (.pu d) ρ) (ha.seq C tk h fun d1 ρ1 h1 => hb.seq C tk h1 fun d2 ρ2 h2 => ?_) (ix_plain hsl)).wv
      obtain ⟨r, h3, h4⟩ := Oc.post_of.mp h2
      rw [Option.map_eq_some_iff] at h3
      obtain ⟨v, h5, rfl⟩ := h3
      obtain ⟨es, j, m, k1, k2, k3, k4⟩ := item_eq h5
      exact ⟨es, j, m, v, k1, k2, k3, k4, h4⟩
  · split at h
    · rename_i hr
      obtain ⟨kk, p1, p2, p3, rfl⟩ := rev_eq hr
      refine wv_revL (ha.seq C tk h fun d ρ1 h1 => ?_)
      obtain ⟨r, h3, h4⟩ := Oc.post_of.mp h1
      unfold revD at h3
      split at h3
      · cases h3; exact ⟨_, rfl, h4⟩
      · cases h3
    · exact h.elim
theorem snd_list (hes : SndA es) : SndE (.List es pos) := fun X W R c ρ P C tk h => by
  simp only [evE] at h
  split at h
  · rename_i hs
    refine wv_lst (hes.seq C tk hs h fun ds ρ1 hl h1 => ?_)
    split at h1
    · rename_i hn; exact ⟨hn, h1⟩
    · exact h1.elim
  · exact h.elim
theorem snd_tup {k : Nat} (hes : SndA es) : SndE (.Tuple es k pos) := fun X W R c ρ P C tk h => by
  simp only [evE] at h
  split at h
  · rename_i hs
    refine (we_tup (P := fun d ρ => P (.pu d) ρ) (hes.seq C tk hs h fun ds ρ1 hl h1 => ?_)).wv
    split at h1
    · rename_i hn; exact ⟨hn, h1⟩
    · exact h1.elim
  · exact h.elim
/-! ### tests -/
theorem snd_notT (ha : SndT a) : SndT (.UnaryOp .Not a pos) := fun X W R c ρ P C tk h => by
  simp only [evT] at h
  rw [Oc.post_bind] at h
  exact wt_not (ha X W R c ρ _ C tk h)
theorem snd_cmpT {op : CmpOp} (ha : SndE a) (hb : SndE b) : SndT (.Compare a [op] [b] pos) := fun X W R c ρ P C tk h => by
  simp only [evT, evE1] at h
  split at h
  · rename_i hs
    have hs : notSet b = true := by simpa using hs
    exact wt_cmp (ha.seq C tk h fun d1 ρ1 h1 => hb.seq C tk h1 fun d2 ρ2 h2 => s_opC C.k tk h2) (mark_plain hs)
  · exact h.elim
theorem snd_cmp {op : CmpOp} (ha : SndE a) (hb : SndE b) : SndE (.Compare a [op] [b] pos) := fun X W R c ρ P C tk h => by
  simp only [evE, evE1] at h
  split at h
  · rename_i hs
    have hs : notSet b = true := by simpa using hs
    refine (we_cmp (P := fun d ρ => P (.pu d) ρ) (ha.seq C tk h fun d1 ρ1 h1 => hb.seq C tk h1 fun d2 ρ2 h2 => ?_) (mark_plain hs)).wv
    exact (s_opC C.k tk (Oc.post_bind.mp h2)).imp fun d ρ' ⟨t, e, hp⟩ => by subst e; exact hp
  · exact h.elim
theorem snd_llT {d : Expr} (ha : SndE a) (hb : SndE b) (hd : SndE d) : SndT (.Compare a [.LtE, .Lt] [b, d] pos) := fun X W R c ρ P C tk h => by
  simp only [evT, evLL] at h
  split at h
  · rename_i hs
    have hs : notSet b = true ∧ notSet d = true := by simpa using hs
    refine wt_leLt (ha.seq C tk h fun d1 ρ1 h1 => hb.seq C tk h1 fun d2 ρ2 h2 => ?_) (by show behindInMarks .Lt d = false; exact mark_plain hs.2)
    split at h2
    · rename_i i j e1 e2
      refine ⟨i, j, intD_eq e1, intD_eq e2, fun hij => ?_, fun hij => ?_⟩
      · rw [if_pos hij] at h2
        refine hd.seq C tk h2 fun d3 ρ3 h3 => ?_
        split at h3
        · rename_i z e3; exact ⟨z, intD_eq e3, h3⟩
        · exact h3.elim
      · rw [if_neg hij] at h2; exact h2
    · exact h2.elim
  · exact h.elim
theorem snd_nameT {x : Str} : SndT (.Name x pos) := fun X W R c ρ P C tk h => by
  simp only [evT] at h
  refine wt_val ((SndE.seq (e := .Name x pos) (fun X W R c ρ P C tk h => s_name C h) C tk h fun d ρ1 h1 => ?_)) (by intro _; rfl)
  obtain ⟨r, h2, h3⟩ := Oc.post_of.mp h1
  exact ⟨r, boolD_eq h2, h3⟩
theorem snd_callT {f : Expr} {args : List Expr} {kws : List Keyword} (hf : SndE (.Call f args kws pos)) : SndT (.Call f args kws pos) := fun X W R c ρ P C tk h => by
  simp only [evT] at h
  refine wt_val (hf.seq C tk h fun d ρ1 h1 => ?_) (by intro _; rfl)
  obtain ⟨r, h2, h3⟩ := Oc.post_of.mp h1
  exact ⟨r, boolD_eq h2, h3⟩
/-- a list of operands -/
def SndB (es : List Expr) : Prop := ∀ (X : Cx) (W : WX) (R : RX) (c : SC) (ρ : List Sl) (P : PV) (op : BoolOp) (pos : Pos), CxOk X c → Takes X W → (evB es op c ρ).post P R → WV X W R (.BoolOp op es pos) ρ P
def SndBT (es : List Expr) : Prop := ∀ (X : Cx) (W : WX) (R : RX) (c : SC) (ρ : List Sl) (P : Bool → List Sl → Prop) (op : BoolOp) (pos : Pos), CxOk X c → Takes X W → (evTs es op c ρ).post P R → WW X W R (.BoolOp op es pos) ρ P
theorem snd_b1 (ha : SndE a) : SndB [a] := fun X W R c ρ P op pos C tk h => by
  simp only [evB] at h
  exact wv_last (ha X W R c ρ P C tk h)
theorem snd_bs (ha : SndE a) (hes : SndB (b :: es)) : SndB (a :: b :: es) := fun X W R c ρ P op pos C tk h => by
  rw [evB] at h
  cases op with
  | And =>
    refine wv_and (ha.seq C tk h fun d ρ1 h1 => ?_)
    cases hb : boolD d with
    | none => rw [hb] at h1; exact h1.elim
    | some t =>
      rw [hb] at h1
      refine ⟨t, boolD_eq hb, fun e => ?_, fun e => ?_⟩
      · subst e; exact hes X W R c ρ1 P .And pos C tk h1
      · subst e; exact h1
  | Or =>
    refine wv_or (ha.seq C tk h fun d ρ1 h1 => ?_)
    cases hb : boolD d with
    | none => rw [hb] at h1; exact h1.elim
    | some t =>
      rw [hb] at h1
      refine ⟨t, boolD_eq hb, fun e => ?_, fun e => ?_⟩
      · subst e; exact hes X W R c ρ1 P .Or pos C tk h1
      · subst e; exact h1
theorem snd_bt1 (ha : SndT a) : SndBT [a] := fun X W R c ρ P op pos C tk h => by
  simp only [evTs] at h
  cases op with
  | And => exact ww_and1 (ha X W R c ρ P C tk h)
  | Or => exact ww_or1 (ha X W R c ρ P C tk h)
theorem snd_bts (ha : SndT a) (hes : SndBT (b :: es)) : SndBT (a :: b :: es) := fun X W R c ρ P op pos C tk h => by
  rw [evTs, Oc.post_bind] at h
  cases op with
  | And =>
    refine ww_and (ha X W R c ρ _ C tk (h.imp fun t ρ1 h1 => ⟨fun e => ?_, fun e => ?_⟩))
    · subst e; exact hes X W R c ρ1 P .And pos C tk h1
    · subst e; exact h1
  | Or =>
    refine ww_or (ha X W R c ρ _ C tk (h.imp fun t ρ1 h1 => ⟨fun e => ?_, fun e => ?_⟩))
    · subst e; exact hes X W R c ρ1 P .Or pos C tk h1
    · subst e; exact h1
theorem snd_boolT {op : BoolOp} (hes : SndBT es) : SndT (.BoolOp op es pos) := fun X W R c ρ P C tk h => by
  simp only [evT] at h
  exact (hes X W R c ρ P op pos C tk h).wt
theorem snd_bool {op : BoolOp} (hes : SndB es) : SndE (.BoolOp op es pos) := fun X W R c ρ P C tk h => by
  simp only [evE] at h
  exact hes X W R c ρ P op pos C tk h
end
end Sf
namespace Sf
open PySem L2
section
variable {X : Cx} {W : WX} {R : RX} {e a b t o tg it elt : Expr} {es args : List Expr} {ρ : List Sl} {P : PV} {c : SC} {pos p p1 apos : Pos} {x m : Str}
theorem snd_callN (he : ∀ e ∈ args, SndE e) (hes : SndA args) (htl : ∀ y es, args = y :: es → SndA es) : SndE (.Call (.Name x p) args [] pos) := fun X W R c ρ P C tk h => by
  rw [evE] at h
  unfold callN at h
  split at h
  · rename_i hs
    have hs : noStar args = true := by simpa using hs
    split at h
    · exact h.elim
    · split at h
      · -- a def
        rename_i hg
        split at h
        · exact h.elim
        · rename_i hne
          cases args with
          | nil => exact absurd rfl hne
          | cons a es => exact s_fn C tk hg hs (hes.seq C tk hs h fun ds ρ1 hl h1 => ⟨hl, h1⟩)
      · -- a class
        rename_i hg
        cases args with
        | nil =>
          simp only [evEs] at h
          exact s_mk0 C tk hg h
        | cons a es => exact s_mk C tk hg hs (hes.seq C tk hs h fun ds ρ1 hl h1 => ⟨hl, h1⟩)
      · -- a def that changes its first argument
        rename_i hg
        split at h
        · rename_i y es
          split at h
          · rename_i i ho
            obtain ⟨x1, p1, rfl, hi, hr⟩ := ownV_eq ho
            have hs2 := (star_cons hs X.env).2
            rw [evTl] at h
            refine s_fnN C tk hg hs2 hi hr ((htl _ _ rfl).seq C tk hs2 h fun ds ρ1 hl h1 => ?_)
            split at h1
            · rename_i lb us hr1
              refine ⟨lb, us, hr1, ?_⟩
              split at h1
              · rename_i r us' e1; rw [e1]; exact h1
              · rename_i z us' e1; rw [e1]; exact h1
              · exact h1.elim
            · exact h1.elim
          · exact h.elim
        · exact h.elim
      · -- imported
        rename_i id hg
        split at h
        · rename_i hc
          obtain ⟨hl2, rfl⟩ := hc
          match args, hs, hes, hl2, h with
          | [a, b], hs, hes, _, h =>
            refine s_gcd C hg hs (hes.seq C tk hs h fun ds ρ1 hl h1 => ?_)
            split at h1
            · rename_i d1 d2
              obtain ⟨r, h2, h3⟩ := Oc.post_of.mp h1
              rw [Option.map_eq_some_iff] at h2
              obtain ⟨v, h4, rfl⟩ := h2
              exact ⟨d1, d2, v, rfl, h4, h3⟩
            · exact h1.elim
        · exact h.elim
      · -- built-in
        rename_i hg
        split at h
        · rename_i hx
          have hx := eq_of_beq hx
          subst hx
          split at h
          · skip
            rw [evHd] at h
            refine s_isa C hg hs ((he _ List.mem_cons_self).seq C tk h fun d ρ1 h1 => ?_)
            obtain ⟨r, h2, h3⟩ := Oc.post_of.mp h1
            rw [Option.map_eq_some_iff] at h2
            obtain ⟨bb, h4, rfl⟩ := h2
            exact ⟨bb, h4, h3⟩
          · skip
            split at h
            · rename_i hc
              simp only [Bool.and_eq_true, decide_eq_true_eq] at hc
              obtain ⟨⟨h1, h2⟩, h3⟩ := hc
              rw [evHd] at h
              refine s_isaLT C hg h2 h3 h1 hs ((he _ List.mem_cons_self).seq C tk h fun d ρ1 h4 => ?_)
              split at h4
              · rename_i hk
                obtain ⟨t, k1, k2⟩ := knows_ty hk
                obtain ⟨r, h5, h6⟩ := Oc.post_of.mp h4
                rw [k1] at h5
                cases h5
                exact ⟨t, k1, k2, h6⟩
              · exact h4.elim
            · exact h.elim
          · exact h.elim
        · have one : ∀ {e : Expr}, args = [e] → (if knB x 1 = true then (evEs args c ρ).bind fun ds ρ1 => bltC c.toLk x ds ρ1 else .no : Oc Rv).post P R → WV X W R (.Call (.Name x p) args [] pos) ρ P := fun {e} ea h => by
            subst ea
            split at h
            · rename_i hk
              unfold knB at hk
              by_cases h1 : x = "list"
              · subst h1
                refine s_list C hg hs (hes.seq C tk hs h fun ds ρ1 hl hh => ?_)
                match ds, hl with
                | [d], _ =>
                  unfold bltC at hh
                  dsimp only at hh
                  rw [if_pos (by decide)] at hh
                  obtain ⟨r, h2, h3⟩ := Oc.post_of.mp hh
                  rw [Option.map_eq_some_iff] at h2
                  obtain ⟨v, h4, rfl⟩ := h2
                  exact ⟨d, v, rfl, h4, h3⟩
              have b1 : (x == ("list" : Str)) = false := by simpa using h1
              by_cases h2 : x = "str"
              · subst h2
                refine s_str C tk hg hs (hes.seq C tk hs h fun ds ρ1 hl hh => ?_)
                match ds, hl with
                | [d], _ =>
                  unfold bltC at hh
                  dsimp only at hh
                  rw [if_neg (by decide), if_pos (by decide), Oc.post_pu] at hh
                  exact ⟨d, rfl, hh⟩
              have b2 : (x == ("str" : Str)) = false := by simpa using h2
              · rw [b1, b2] at hk
                refine s_blt1 C hg hk hs (hes.seq C tk hs h fun ds ρ1 hl hh => ?_)
                match ds, hl with
                | [d], _ =>
                  unfold bltC at hh
                  dsimp only at hh
                  rw [if_neg (by rw [b1]; decide), if_neg (by rw [b2]; decide)] at hh
                  obtain ⟨r, h3, h4⟩ := Oc.post_of.mp hh
                  rw [Option.map_eq_some_iff] at h3
                  obtain ⟨v, h5, rfl⟩ := h3
                  exact ⟨d, v, rfl, h5, h4⟩
            · exact h.elim
          split at h
          · rename_i e
            split at h
            · rename_i i ex ho
              have ex := eq_of_beq ex
              subst ex
              obtain ⟨x1, p1, rfl, hi, lb, ds, hr⟩ := ownV_eq ho
              split at h
              · rename_i lb' ds' hr'
                exact s_lenO C hg hi hr' h
              · exact h.elim
            · exact one rfl h
          · rename_i hne
            split at h
            · rename_i hk
              obtain ⟨hk, hcm⟩ := Bool.and_eq_true_iff.mp hk
              match args, hs, hes, hk, h with
              | [], _, _, hk, _ => cases hk
              | [e], hs, hes, hk, h => exact absurd rfl (hne e)
              | [a, b], hs, hes, hk, h =>
                rcases Bool.or_eq_true_iff.mp (show (x == ("min" : Str) || x == ("max" : Str)) = true from hk) with hk | hk
                · have hk := eq_of_beq hk
                  subst hk
                  refine s_min C (C.calm hcm) hg hs (hes.seq C tk hs h fun ds ρ1 hl h1 => ?_)
                  match ds, hl with
                  | [d1, d2], _ =>
                    unfold bltC at h1
                    obtain ⟨r, h2, h3⟩ := Oc.post_of.mp h1
                    rw [Option.map_eq_some_iff] at h2
                    obtain ⟨v, h4, rfl⟩ := h2
                    exact ⟨d1, d2, v, rfl, h4, h3⟩
                · have hk := eq_of_beq hk
                  subst hk
                  refine s_max C (C.calm hcm) hg hs (hes.seq C tk hs h fun ds ρ1 hl h1 => ?_)
                  match ds, hl with
                  | [d1, d2], _ =>
                    unfold bltC at h1
                    obtain ⟨r, h2, h3⟩ := Oc.post_of.mp h1
                    rw [Option.map_eq_some_iff] at h2
                    obtain ⟨v, h4, rfl⟩ := h2
                    exact ⟨d1, d2, v, rfl, h4, h3⟩
              | _ :: _ :: _ :: _, _, _, hk, _ => cases hk
            · exact h.elim
      · exact h.elim
  · exact h.elim
theorem snd_callM (ho : SndE o) (hes : SndA args) : SndE (.Call (.Attribute o m apos) args [] pos) := fun X W R c ρ P C tk h => by
  simp only [evE] at h
  split at h
  · rename_i hc
    simp only [Bool.and_eq_true, decide_eq_true_eq, List.isEmpty_nil, Bool.and_true] at hc
    obtain ⟨⟨hs, hline⟩, hl⟩ := hc
    split at h
    · rename_i i hoo
      obtain ⟨x1, p1, rfl, hi, hr⟩ := ownV_eq hoo
      exact s_ownM C hs hline hi h
    · split at h
      · rename_i hp
        · refine s_meth C tk hs hl hp hline (ho.seq C tk h fun d ρ1 h1 => ?_)
          split at h1
          · rename_i D ks fs
            split at h1
            · rename_i hm
              obtain ⟨hm1, hm2⟩ := Bool.and_eq_true_iff.mp hm
              refine ⟨D, ks, fs, rfl, hm1, by simpa using hm2, fun en => ?_, fun en => hes.seq C tk hs h1 fun as ρ2 hl2 h2 => ⟨hl2, h2⟩⟩
              subst en
              simp only [evEs] at h1
              exact h1
            · exact h1.elim
          · exact h1.elim
      · exact h.elim
  · exact h.elim
end
end Sf
namespace Sf
open PySem L2
def SndI (it tg : Expr) : Prop := ∀ (X : Cx) (W : WX) (R : RX) (c : SC) (ρ : List Sl) (P : List Dat → List Sl → Prop), CxOk X c → Takes X W → (evI it tg c ρ (evE it c ρ)).post P R → WI X W R tg it ρ P
section
variable {X : Cx} {W : WX} {R : RX} {e a b t o tg it elt : Expr} {es args : List Expr} {ρ : List Sl} {P : PV} {c : SC} {pos p p1 apos : Pos} {x m : Str}
theorem snd_iE (he : SndE it) (hq : ∀ c ρ w, evI it tg c ρ w = w.dat.bind fun d ρ1 => Oc.of (seqOf d) ρ1) : SndI it tg := fun X W R c ρ P C tk h => by
  rw [hq] at h
  exact wi_seq (he.seq C tk h fun d ρ1 h1 => Oc.post_of.mp h1)
theorem snd_iC {kws : List Keyword} (he : SndE (.Call (.Name x p) args kws pos)) (hes : SndA args) : SndI (.Call (.Name x p) args kws pos) tg := fun X W R c ρ P C tk h => by
  have other : ((evE (.Call (.Name x p) args kws pos) c ρ).dat.bind fun d ρ1 => Oc.of (seqOf d) ρ1).post P R → WI X W R tg (.Call (.Name x p) args kws pos) ρ P := fun h => wi_seq (he.seq C tk h fun d ρ1 h1 => Oc.post_of.mp h1)
  rw [evI] at h
  unfold iterN at h
  split at h
  · rename_i h1 h2 hg
    obtain ⟨hs, hk⟩ := Bool.and_eq_true_iff.mp h1
    have ek : kws = [] := List.isEmpty_iff.mp hk
    subst ek
    split at h
    · rename_i hx
      have hx := eq_of_beq hx
      subst hx
      split at h
      · rename_i hn
        simp only [Bool.and_eq_true, decide_eq_true_eq] at hn
        exact wi_rng C hg hs hn (hes.seq C tk hs h fun ds ρ1 hl h1 => ⟨hl, Oc.post_of.mp h1⟩)
      · exact h.elim
    · split at h
      · rename_i hx
        have hx := eq_of_beq hx
        subst hx
        split at h
        · rename_i hl
          obtain ⟨ht, hl⟩ := Bool.and_eq_true_iff.mp hl
          have hl := of_decide_eq_true hl
          cases tg <;> first | (exact (Bool.false_ne_true ht).elim) | skip
          match args, hs, hes, hl, h with
          | [a], hs, hes, _, h =>
            refine wi_enum C hg hs (hes.seq C tk hs h fun ds ρ1 hl h1 => ?_)
            split at h1
            · rename_i d
              obtain ⟨is, h2, h3⟩ := Oc.post_of.mp h1
              exact ⟨d, is, rfl, h2, h3⟩
            · exact h1.elim
        · exact h.elim
      · split at h
        · rename_i hx
          have hx := eq_of_beq hx
          subst hx
          split at h
          · rename_i hl
            obtain ⟨ht, hl⟩ := Bool.and_eq_true_iff.mp hl
            have hl := of_decide_eq_true hl
            cases tg <;> first | (exact (Bool.false_ne_true ht).elim) | skip
            match args, hs, hes, hl, h with
            | [a, b], hs, hes, _, h =>
              refine wi_zip C hg hs (hes.seq C tk hs h fun ds ρ1 hl h1 => ?_)
              split at h1
              · rename_i d1 d2
                obtain ⟨is, h2, h3⟩ := Oc.post_of.mp h1
                exact ⟨d1, d2, is, rfl, h2, h3⟩
              · exact h1.elim
          · exact h.elim
        · exact other h
  · exact other h
theorem snd_ifs {ifs : List Expr} {PT : Bool → List Sl → Prop} (hl : ifs.length ≤ 1) (ht : ∀ e ∈ ifs, SndT e) (C : CxOk X c) (h : (evIf ifs c ρ).post PT R0) : WTs X W0 R0 ifs ρ PT := by
  match ifs, hl, ht, h with
  | [], _, _, h => simp only [evIf] at h; exact h
  | [e], _, ht, h => simp only [evIf] at h; exact ht e List.mem_cons_self X W0 R0 c ρ PT C takesW h
theorem snd_lc {ifs : List Expr} {k : Int} {scope : Scope} (hI : SndI it tg) (ht : ∀ e ∈ ifs, SndT e) (he : SndE elt) : SndE (.ListComp elt [⟨tg, it, ifs, k⟩] scope pos) := fun X W R c ρ P C tk h => by
  simp only [evE] at h
  split at h
  · rename_i t htg
    split at h
    · rename_i hc
      simp only [Bool.and_eq_true] at hc
      obtain ⟨⟨⟨hio, hcm⟩, hb⟩, hsub⟩ := hc
      unfold itOk at hio
      obtain ⟨hns, hil⟩ := Bool.and_eq_true_iff.mp hio
      have hil := of_decide_eq_true hil
      have htg' : k = 0 ∧ tgOf (c.blk scope) tg = some t := by
        unfold tgsOf at htg
        split at htg
        · rename_i h0; cases h0; exact ⟨rfl, htg⟩
        · cases htg
      obtain ⟨rfl, htg⟩ := htg'
      have ok : BlkOk X.N X.env.scope scope (ownOf c.N scope) := by
        rw [C.N, C.sc]; exact blkOk_by hb
      have hvs : ∀ i ∈ tgSl t, i ∈ (ownOf c.N scope).map (·.2) := fun i hi => by
        cases t with
        | one j =>
          have e := List.mem_singleton.mp hi
          subst e
          simpa [subsetV] using hsub
        | many is => have := List.all_eq_true.mp hsub i hi; simpa using this
      simp only [evG] at h
      rw [Oc.post_bind] at h
      refine wv_lc (ownOf c.N scope) hil C.nd (C.calm hcm) ok (g := gOf X.K t) (fun s H D cl fp => ?_) (hI X W R c ρ _ C tk (h.imp fun ds ρ0 h1 => ?_)) (fun x => fold_plain hns x)
      · exact pg_of (X := X.blk s H scope (compEnvC scope cl D X.env) fp) C.nd (C.calm hcm) htg fun i hi => blk_st C ok s H D cl fp (hvs i hi)
      · split at h1
        · rename_i hle
          rw [Oc.post_bind] at h1
          refine ⟨⟨fun j acc ρ' => (compGo t ((ownOf c.N scope).map (·.2)) (fun ρ => evTg [⟨tg, it, ifs, 0⟩] (c.blk scope) ρ) (fun ρ => (evE elt (c.blk scope) ρ).dat) (ds.drop j) acc ρ').post (fun acc ρ' => P (.fr acc) (bak ρ0 ρ' ((ownOf c.N scope).map (·.2)))) R, h1, fun j d' acc ρ' hd h2 => ?_, fun acc ρ' h2 => ?_⟩, hle⟩
          · have ed : ds.drop j = d' :: ds.drop (j + 1) := by
              obtain ⟨hlt, e⟩ := List.getElem?_eq_some_iff.mp hd
              rw [List.drop_eq_getElem_cons hlt, e]
            dsimp only at h2
            rw [ed] at h2
            unfold compGo at h2
            split at h2
            · exact h2.elim
            · rename_i ρ2 hs2
              refine tgb_of hs2 hsub fun s H D cl fp => ?_
              have C2 := C.blk ok.kind s H D cl fp
              refine snd_ifs hil ht C2 ?_
              have h2' : (match evIf ifs (c.blk scope) ρ2 with
                | .ok true ρ3 => match (evE elt (c.blk scope) ρ3).dat with
                  | .ok y ρ4 => compGo t ((ownOf c.N scope).map (·.2)) (fun ρ => evTg [⟨tg, it, ifs, 0⟩] (c.blk scope) ρ) (fun ρ => (evE elt (c.blk scope) ρ).dat) (ds.drop (j + 1)) (acc ++ [y]) (wip ρ4 ((ownOf c.N scope).map (·.2)))
                  | _ => .no
                | .ok false ρ3 => compGo t ((ownOf c.N scope).map (·.2)) (fun ρ => evTg [⟨tg, it, ifs, 0⟩] (c.blk scope) ρ) (fun ρ => (evE elt (c.blk scope) ρ).dat) (ds.drop (j + 1)) acc (wip ρ3 ((ownOf c.N scope).map (·.2)))
                | _ => .no : Oc (List Dat)).post (fun acc ρ' => P (.fr acc) (bak ρ0 ρ' ((ownOf c.N scope).map (·.2)))) R := h2
              cases hif : evIf ifs (c.blk scope) ρ2 with
              | no => rw [hif] at h2'; exact h2'.elim
              | ex x ρ3 => rw [hif] at h2'; exact h2'.elim
              | ok bb ρ3 =>
                rw [hif] at h2'
                cases bb with
                | false => exact ⟨fun z => (nomatch z), fun _ => h2'⟩
                | true =>
                  refine ⟨fun _ s H D cl fp => ?_, fun z => nomatch z⟩
                  have C3 := C.blk ok.kind s H D cl fp
                  dsimp only at h2'
                  refine he.we C3 takesW ?_
                  cases hel : (evE elt (c.blk scope) ρ3).dat with
                  | no => rw [hel] at h2'; exact h2'.elim
                  | ex x ρ4 => rw [hel] at h2'; exact h2'.elim
                  | ok y ρ4 => rw [hel] at h2'; exact h2'
          · dsimp only at h2
            rw [List.drop_length] at h2
            exact h2
        · exact h1.elim
    · exact h.elim
  · exact h.elim
end
end Sf
namespace Sf
open PySem L2
theorem no_e {e : Expr} (h : ∀ c ρ, evE e c ρ = .no) : SndE e := fun X W R c ρ P C tk hp => by rw [h] at hp; exact hp.elim
theorem no_t {e : Expr} (h : ∀ c ρ w, evT e c ρ w = .no) : SndT e := fun X W R c ρ P C tk hp => by rw [h] at hp; exact hp.elim
theorem cmp_no {a : Expr} {ops : List CmpOp} {bs : List Expr} {pos : Pos} (h : ∀ op b, ops = [op] → bs = [b] → False) (c : SC) (ρ : List Sl) : evE (.Compare a ops bs pos) c ρ = .no := by
  simp only [evE]
  split
  · split
    · rename_i op hc
      simp only [Bool.and_eq_true, decide_eq_true_eq] at hc
      match bs, hc.2, h with
      | [b], _, h => exact (h op b rfl rfl).elim
    · rfl
  · rfl
theorem cmp_noT {a : Expr} {ops : List CmpOp} {bs : List Expr} {pos : Pos} (h : ∀ op b, ops = [op] → bs = [b] → False) (h2 : ∀ b d, ops = [.LtE, .Lt] → bs = [b, d] → False) (c : SC) (ρ : List Sl) (w : Oc Rv) : evT (.Compare a ops bs pos) c ρ w = .no := by
  simp only [evT]
  split
  · split
    · rename_i op hc
      simp only [Bool.and_eq_true, decide_eq_true_eq] at hc
      match bs, hc.2, h with
      | [b], _, h => exact (h op b rfl rfl).elim
    · rfl
  · split
    · rename_i hc
      simp only [Bool.and_eq_true, decide_eq_true_eq] at hc
      match bs, hc.2, h2 with
      | [b, d], _, h2 => exact (h2 b d rfl rfl).elim
    · rfl
  · rfl
theorem call_no {f : Expr} {args : List Expr} {kws : List Keyword} {pos : Pos} (hk : kws ≠ []) (c : SC) (ρ : List Sl) : evE (.Call f args kws pos) c ρ = .no := by
  have hk2 : kws.isEmpty = false := by cases kws with | nil => exact absurd rfl hk | cons _ _ => rfl
  cases f <;> first
    | rfl
    | (rw [evE]; unfold callN; rw [hk2, Bool.and_false]; rfl)
    | (rw [evE, hk2, Bool.and_false]; rfl)
theorem lc_no {elt : Expr} {gens : List Comprehension} {scope : Scope} {pos : Pos} (h : ∀ g, gens = [g] → False) (c : SC) (ρ : List Sl) : evE (.ListComp elt gens scope pos) c ρ = .no := by
  simp only [evE]
  have e : tgsOf gens (c.blk scope) = none := by
    match gens, h with
    | [], _ => rfl
    | [g], h => exact (h g rfl).elim
    | a :: b :: r, _ => obtain ⟨_, _, _, _⟩ := a; simp [tgsOf]
  rw [e]
mutual
theorem sE : (e : Expr) → SndE e
  | .Constant _ _ _ => snd_const
  | .Name _ _ => fun X W R c ρ P C tk h => s_name C h
  | .BinOp a op b _ => snd_bin (sE a) (sE b)
  | .UnaryOp op a _ => snd_un (sE a)
  | .BoolOp op es _ => snd_bool (sB es)
  | .Compare a ops bs _ => match ops, bs with
    | [op], [b] => snd_cmp (sE a) (sE b)
    | [], _ => no_e (cmp_no (fun _ _ h => nomatch h))
    | _ :: _ :: _, _ => no_e (cmp_no (fun _ _ h => nomatch h))
    | [_], [] => no_e (cmp_no (fun _ _ _ h => nomatch h))
    | [_], _ :: _ :: _ => no_e (cmp_no (fun _ _ _ h => nomatch h))
  | .IfExp t a b _ => snd_ifx (sT t) (sE a) (sE b)
  | .Attribute a _ _ => snd_attr (sE a)
  | .Subscript a b _ => snd_sub (sE a) (sE b)
  | .List es _ => snd_list (sA es)
  | .Tuple es _ _ => snd_tup (sA es)
  | .ListComp elt gens _ _ => match gens with
    | [⟨tg, it, ifs, _⟩] => snd_lc (sI it tg) (sTs ifs) (sE elt)
    | [] => no_e (lc_no (fun _ h => nomatch h))
    | _ :: _ :: _ => no_e (lc_no (fun _ h => nomatch h))
  | .Call f args kws _ => match f, kws with
    | .Name _ _, [] => snd_callN (sEs args) (sA args) (sTl args)
    | .Attribute o _ _, [] => snd_callM (sE o) (sA args)
    | f, _ :: _ => no_e (call_no (fun z => nomatch z))
    | .BoolOp .., [] => no_e (fun _ _ => rfl)
    | .NamedExpr .., [] => no_e (fun _ _ => rfl)
    | .BinOp .., [] => no_e (fun _ _ => rfl)
    | .UnaryOp .., [] => no_e (fun _ _ => rfl)
    | .Lambda .., [] => no_e (fun _ _ => rfl)
    | .IfExp .., [] => no_e (fun _ _ => rfl)
    | .Dict .., [] => no_e (fun _ _ => rfl)
    | .Set .., [] => no_e (fun _ _ => rfl)
    | .ListComp .., [] => no_e (fun _ _ => rfl)
    | .SetComp .., [] => no_e (fun _ _ => rfl)
    | .DictComp .., [] => no_e (fun _ _ => rfl)
    | .GeneratorExp .., [] => no_e (fun _ _ => rfl)
    | .Await .., [] => no_e (fun _ _ => rfl)
    | .Yield .., [] => no_e (fun _ _ => rfl)
    | .YieldFrom .., [] => no_e (fun _ _ => rfl)
    | .Compare .., [] => no_e (fun _ _ => rfl)
    | .Call .., [] => no_e (fun _ _ => rfl)
    | .FormattedValue .., [] => no_e (fun _ _ => rfl)
    | .JoinedStr .., [] => no_e (fun _ _ => rfl)
    | .Constant .., [] => no_e (fun _ _ => rfl)
    | .Subscript .., [] => no_e (fun _ _ => rfl)
    | .Starred .., [] => no_e (fun _ _ => rfl)
    | .List .., [] => no_e (fun _ _ => rfl)
    | .Tuple .., [] => no_e (fun _ _ => rfl)
    | .Slice .., [] => no_e (fun _ _ => rfl)
  | .NamedExpr .. => no_e (fun _ _ => rfl)
  | .Lambda .. => no_e (fun _ _ => rfl)
  | .Dict .. => no_e (fun _ _ => rfl)
  | .Set .. => no_e (fun _ _ => rfl)
  | .SetComp .. => no_e (fun _ _ => rfl)
  | .DictComp .. => no_e (fun _ _ => rfl)
  | .GeneratorExp .. => no_e (fun _ _ => rfl)
  | .Await .. => no_e (fun _ _ => rfl)
  | .Yield .. => no_e (fun _ _ => rfl)
  | .YieldFrom .. => no_e (fun _ _ => rfl)
  | .FormattedValue .. => no_e (fun _ _ => rfl)
  | .JoinedStr .. => no_e (fun _ _ => rfl)
  | .Starred .. => no_e (fun _ _ => rfl)
  | .Slice .. => no_e (fun _ _ => rfl)
  termination_by e => (sizeOf e, 0)
theorem sA : (es : List Expr) → SndA es
  | [] => snd_nil
  | e :: es => snd_cons (sE e) (sA es)
  termination_by es => (sizeOf es, 0)
theorem sEs : (es : List Expr) → ∀ e ∈ es, SndE e
  | [], _, h => nomatch h
  | e :: es, x, h => (List.mem_cons.mp h).elim (fun z => z ▸ sE e) (fun z => sEs es x z)
  termination_by es => (sizeOf es, 0)
theorem sTl : (es : List Expr) → ∀ y ys, es = y :: ys → SndA ys
  | [], _, _, h => nomatch h
  | _ :: es, _, ys, h => by cases h; exact sA es
  termination_by es => (sizeOf es, 0)
theorem sB : (es : List Expr) → SndB es
  | [] => fun X W R c ρ P op pos C tk h => by simp only [evB] at h; exact h.elim
  | [a] => snd_b1 (sE a)
  | a :: b :: es => snd_bs (sE a) (sB (b :: es))
  termination_by es => (sizeOf es, 0)
theorem sT : (e : Expr) → SndT e
  | .UnaryOp op a _ => match op with
    | .Not => snd_notT (sT a)
    | .USub => no_t (fun _ _ _ => by simp only [evT])
    | .UAdd => no_t (fun _ _ _ => by simp only [evT])
    | .Invert => no_t (fun _ _ _ => by simp only [evT])
  | .BoolOp op es _ => snd_boolT (sBT es)
  | .Compare a ops bs _ => match ops, bs with
    | [op], [b] => snd_cmpT (sE a) (sE b)
    | [op, op2], [b, d] => if h : op = .LtE ∧ op2 = .Lt then by
        obtain ⟨rfl, rfl⟩ := h
        exact snd_llT (sE a) (sE b) (sE d)
      else no_t (cmp_noT (fun _ _ e => nomatch e) (fun _ _ e _ => h (by cases e; exact ⟨rfl, rfl⟩)))
    | [], _ => no_t (cmp_noT (fun _ _ e => nomatch e) (fun _ _ e => nomatch e))
    | [_], [] => no_t (cmp_noT (fun _ _ _ e => nomatch e) (fun _ _ e => nomatch e))
    | [_], _ :: _ :: _ => no_t (cmp_noT (fun _ _ _ e => nomatch e) (fun _ _ e => nomatch e))
    | [_, _], [] => no_t (cmp_noT (fun _ _ e => nomatch e) (fun _ _ _ e => nomatch e))
    | [_, _], [_] => no_t (cmp_noT (fun _ _ e => nomatch e) (fun _ _ _ e => nomatch e))
    | [_, _], _ :: _ :: _ :: _ => no_t (cmp_noT (fun _ _ e => nomatch e) (fun _ _ _ e => nomatch e))
    | _ :: _ :: _ :: _, _ => no_t (cmp_noT (fun _ _ e => nomatch e) (fun _ _ e => nomatch e))
  | .Name _ _ => snd_nameT
  | .Call f args kws p => snd_callT (sE (.Call f args kws p))
  | .NamedExpr .. => no_t (fun _ _ _ => rfl)
  | .BinOp .. => no_t (fun _ _ _ => rfl)
  | .Lambda .. => no_t (fun _ _ _ => rfl)
  | .IfExp .. => no_t (fun _ _ _ => rfl)
  | .Dict .. => no_t (fun _ _ _ => rfl)
  | .Set .. => no_t (fun _ _ _ => rfl)
  | .ListComp .. => no_t (fun _ _ _ => rfl)
  | .SetComp .. => no_t (fun _ _ _ => rfl)
  | .DictComp .. => no_t (fun _ _ _ => rfl)
  | .GeneratorExp .. => no_t (fun _ _ _ => rfl)
  | .Await .. => no_t (fun _ _ _ => rfl)
  | .Yield .. => no_t (fun _ _ _ => rfl)
  | .YieldFrom .. => no_t (fun _ _ _ => rfl)
  | .FormattedValue .. => no_t (fun _ _ _ => rfl)
  | .JoinedStr .. => no_t (fun _ _ _ => rfl)
  | .Constant .. => no_t (fun _ _ _ => rfl)
  | .Attribute .. => no_t (fun _ _ _ => rfl)
  | .Subscript .. => no_t (fun _ _ _ => rfl)
  | .Starred .. => no_t (fun _ _ _ => rfl)
  | .List .. => no_t (fun _ _ _ => rfl)
  | .Tuple .. => no_t (fun _ _ _ => rfl)
  | .Slice .. => no_t (fun _ _ _ => rfl)
  termination_by e => (sizeOf e, 1)
theorem sTs : (es : List Expr) → ∀ e ∈ es, SndT e
  | [], _, h => nomatch h
  | e :: es, x, h => (List.mem_cons.mp h).elim (fun z => z ▸ sT e) (fun z => sTs es x z)
  termination_by es => (sizeOf es, 0)
theorem sBT : (es : List Expr) → SndBT es
  | [] => fun X W R c ρ P op pos C tk h => by simp only [evTs] at h; exact h.elim
  | [a] => snd_bt1 (sT a)
  | a :: b :: es => snd_bts (sT a) (sBT (b :: es))
  termination_by es => (sizeOf es, 0)
theorem sI (it tg : Expr) : SndI it tg := by
  have gen : (∀ c ρ w, evI it tg c ρ w = w.dat.bind fun d ρ1 => Oc.of (seqOf d) ρ1) → SndI it tg := snd_iE (sE it)
  cases it with
  | Call f args kws pos =>
    cases f with
    | Name x p => exact snd_iC (sE (.Call (.Name x p) args kws pos)) (sA args)
    | _ => exact gen fun _ _ _ => rfl
  | _ => exact gen fun _ _ _ => rfl
  termination_by (sizeOf it, 1)
end
end Sf
namespace Sf
open PySem L2
structure SxOk (X : Cx) (c : SC) : Prop extends CxOk X c where
  pass : PassesOwn (model X.prog X.w) X.A X.env X.xe
  st : ∀ i, StOk X c i
  tp : c.top = true → X.stack = X.env :: X.outer ∧ X.env.frame = some X.env.locals
def SndS (s : Stmt) : Prop := ∀ (X : Cx) (W : WX) (R : RX) (c : SC) (ρ : List Sl) (k : Kn), SxOk X c → Takes X W → (evS s c ρ).post k R → WS X W R s ρ k
def SndSs (ss : List Stmt) : Prop := ∀ (X : Cx) (W : WX) (R : RX) (c : SC) (ρ : List Sl) (k : Kn), SxOk X c → Takes X W → (evSs ss c ρ).post k R → WSs X W R ss ρ k
theorem KOk.hot {P : Program} {w : World} {K : PySem.W.Frag} {mg : Str → Option Value} {base : Heap} {A A' : Around} {L : Lk} (k : KOk P w K mg base A L) : KOk P w K mg base A' L.hot := by
  have hk : ∀ {x g}, L.hot.kind x = g → g ≠ .no → L.kind x = g ∧ g ≠ .fn ∧ g ≠ .fnN ∧ g ≠ .cls ∧ ∀ f, g ≠ .excF f := fun {x g} h hn => by
    show _
    have h : hotK (L.kind x) = g := h
    cases e : L.kind x <;> rw [e] at h <;> unfold hotK at h <;> dsimp only at h <;> subst h <;> first | exact absurd rfl hn | exact ⟨rfl, (fun z => nomatch z), (fun z => nomatch z), (fun z => nomatch z), fun _ z => nomatch z⟩
  refine ⟨fun x h => absurd rfl (hk h (fun z => nomatch z)).2.1, fun x h => absurd rfl (hk h (fun z => nomatch z)).2.2.1, fun C m h => (nomatch (show false = true from h)), fun C m n h => (nomatch (show false = true from h)), fun x h => absurd rfl (hk h (fun z => nomatch z)).2.2.2.1, k.cls, fun C m h => (nomatch (show false = true from h)), fun C m n h => (nomatch (show false = true from h)), k.fld, k.sf, k.nn, fun C op m _ h => (nomatch (show false = true from h)), k.nf, k.ne, k.kit, fun x h => k.exc x (hk h (fun z => nomatch z)).1, fun x f h => absurd rfl ((hk h (fun z => nomatch z)).2.2.2.2 f), k.exm, fun x h => ?_, fun x i h => k.glI x i (hk h (fun z => nomatch z)).1, fun x i h => k.glS x i (hk h (fun z => nomatch z)).1, fun x i h => k.glT x i (hk h (fun z => nomatch z)).1, fun x h => absurd rfl (hk h (fun z => nomatch z)).2.2.2.1, fun x h => k.blt x (hk h (fun z => nomatch z)).1, fun x i h => k.imp x i (hk h (fun z => nomatch z)).1, fun h => nomatch (show false = true from h)⟩
  refine k.exg x ?_
  have h : isExcK (hotK (L.kind x)) = true := h
  cases e : L.kind x <;> rw [e] at h <;> first | rfl | exact h
section
variable {X : Cx} {W : WX} {R : RX} {e a b t o tg it : Expr} {es : List Expr} {ss body : List Stmt} {ρ : List Sl} {k : Kn} {c : SC} {pos p p1 p2 apos : Pos} {x y m f : Str}
theorem SndE.so (h : SndE e) (C : CxOk X c) (tk : Takes X W) {g : Rv → List Sl → So} {P : PV} (hp : ((evE e c ρ).so g).post k R) (i : ∀ r ρ1, (g r ρ1).post k R → P r ρ1) : WV X W R e ρ P := h X W R c ρ P C tk ((Oc.post_so.mp hp).imp i)
theorem SndE.soD (h : SndE e) (C : CxOk X c) (tk : Takes X W) {g : Dat → List Sl → So} {P : PD} (hp : ((evE e c ρ).dat.so g).post k R) (i : ∀ d ρ1, (g d ρ1).post k R → P d ρ1) : WE X W R e ρ P := h.we C tk ((Oc.post_so.mp hp).imp i)
theorem snd_ssn : SndSs [] := fun X W R c ρ k C tk h => by simp only [evSs] at h; exact wss_nil h
theorem snd_ssc {s : Stmt} (hs : SndS s) (hss : SndSs ss) : SndSs (s :: ss) := fun X W R c ρ k C tk h => by
  simp only [evSs] at h
  rw [So.post_bind] at h
  refine wss_cons ?_
  have e : ({ k with nx := fun ρ1 => (evSs ss c ρ1).post k R } : Kn) = ⟨fun ρ1 => (evSs ss c ρ1).post k R, k.rt, k.bk, k.ct⟩ := rfl
  refine WS.imp (hs X W R c ρ _ C tk h) (fun ρ1 h1 => hss X W R c ρ1 k C tk h1)
where WS.imp {X : Cx} {W : WX} {R : RX} {s : Stmt} {ρ : List Sl} {k : Kn} {N N' : List Sl → Prop} (h : WS X W R s ρ { k with nx := N }) (i : ∀ ρ1, N ρ1 → N' ρ1) : WS X W R s ρ { k with nx := N' } :=
  ⟨fun pins s σ na F0 H0 F H D I c n x q => h.run pins s σ na F0 H0 F H D I c n x ⟨fun ρ σ F H c n p => q.nx ρ σ F H c n (i ρ p), q.rt, q.bk, q.ct⟩⟩
theorem snd_ret (he : SndE e) : SndS (.Return (some e) pos) := fun X W R c ρ k C tk h => by
  simp only [evS] at h
  split at h
  · rename_i i ho
    obtain ⟨x1, p1, rfl, hi, _⟩ := ownV_eq ho
    obtain ⟨h1, h2, h3, h4⟩ := C.slot hi
    split at h
    · rename_i ds hr; exact ws_retO i hr h h1 h2 h3 h4
    · exact h.elim
  · exact ws_ret (he.so C.toCxOk tk h fun r ρ1 h1 => h1)
theorem ws_ret0 (h : k.rt (.pu dN) ρ) : WS X W R (.Return none pos) ρ k :=
  .of ps_retN fun σ na F0 H0 F H D c n x q => q.rt _ _ ρ σ F H c n (.pu .v) h
theorem snd_ret0 : SndS (.Return none pos) := fun X W R c ρ k C tk h => by
  simp only [evS] at h
  exact ws_ret0 h
theorem snd_if (ht : SndT t) (ha : SndSs ss) (hb : SndSs body) : SndS (.If t ss body pos) := fun X W R c ρ k C tk h => by
  simp only [evS] at h
  rw [Oc.post_so] at h
  refine ws_if (ht X W R c ρ _ C.toCxOk tk (h.imp fun r ρ1 h1 => ⟨fun e => ?_, fun e => ?_⟩))
  · subst e; exact ha X W R c ρ1 k C tk h1
  · subst e; exact hb X W R c ρ1 k C tk h1
theorem snd_while (ht : SndT t) (hb : SndSs body) : SndS (.While t body [] pos) := fun X W R c ρ k C tk h => by
  simp only [evS] at h
  refine ws_while C.pass (fun n ρ' => (whileGo (fun ρ => evT t c ρ (evE t c ρ)) (fun ρ => evSs body c ρ) n ρ').post k R) ⟨LF, h⟩ fun n ρ' h1 => ?_
  cases n with
  | zero => exact h1.elim
  | succ n =>
    unfold whileGo at h1
    refine ht X W R c ρ' _ C.toCxOk tk ?_
    cases e : evT t c ρ' (evE t c ρ') with
    | no => rw [e] at h1; exact h1.elim
    | ex x ρ2 => rw [e] at h1; exact h1
    | ok bb ρ2 =>
      rw [e] at h1
      cases bb with
      | false => exact ⟨fun z => (nomatch z), fun _ => h1⟩
      | true =>
        refine ⟨fun _ => hb X W R c ρ2 _ C tk ?_, fun z => nomatch z⟩
        dsimp only at h1
        cases eb : evSs body c ρ2 with
        | nx ρ3 => rw [eb] at h1; exact ⟨n, Nat.lt_succ_self n, h1⟩
        | ct ρ3 => rw [eb] at h1; exact ⟨n, Nat.lt_succ_self n, h1⟩
        | bk ρ3 => rw [eb] at h1; exact h1
        | rt r ρ3 => rw [eb] at h1; exact h1
        | ex x ρ3 => rw [eb] at h1; exact h1
        | no => rw [eb] at h1; exact h1.elim
theorem snd_for (hI : SndI it tg) (hb : SndSs body) : SndS (.For tg it body [] pos) := fun X W R c ρ k C tk h => by
  simp only [evS] at h
  split at h
  · rename_i t _ ht
    split at h
    · rename_i hc
      obtain ⟨hcm, hns⟩ := Bool.and_eq_true_iff.mp hc
      rw [Oc.post_so] at h
      refine ws_for C.pass (C.calm hcm) (pg_of C.nd (C.calm hcm) ht fun i _ => C.st i) (hI X W R c ρ _ C.toCxOk tk (h.imp fun ds ρ0 h1 => ?_)) (fun x => fold_plain hns x)
      refine ⟨fun j ρ' => (forGo t (fun ρ => evSs body c ρ) (ds.drop j) ρ').post k R, h1, fun j d' ρ' hd h2 => ?_, fun ρ' h2 => ?_⟩
      · have ed : ds.drop j = d' :: ds.drop (j + 1) := by
          obtain ⟨hlt, e⟩ := List.getElem?_eq_some_iff.mp hd
          rw [List.drop_eq_getElem_cons hlt, e]
        dsimp only at h2
        rw [ed] at h2
        unfold forGo at h2
        split at h2
        · exact h2.elim
        · rename_i ρ2 hs2
          refine tgd_of hs2 (hb X W R c ρ2 _ C tk ?_)
          cases eb : evSs body c ρ2 with
          | nx ρ3 => rw [eb] at h2; exact h2
          | ct ρ3 => rw [eb] at h2; exact h2
          | bk ρ3 => rw [eb] at h2; exact h2
          | rt r ρ3 => rw [eb] at h2; exact h2
          | ex x ρ3 => rw [eb] at h2; exact h2
          | no => rw [eb] at h2; exact h2.elim
      · dsimp only at h2
        rw [List.drop_length] at h2
        exact h2
    · exact h.elim
  · exact h.elim
theorem snd_raise {oe ca : Option Expr} (hes : ∀ x p e pos', oe = some (.Call (.Name x p) [e] [] pos') → SndE e) : SndS (.Raise oe ca pos) := fun X W R c ρ k C tk h => by
  simp only [evS] at h
  split at h
  · rename_i x px e pe
    split at h
    · rename_i hcm
      split at h
      · rename_i hg
        split at h
        · rename_i hk
          obtain ⟨g1, g2, _, g3⟩ := glob_of C.toCxOk hg (fun z => nomatch z)
          unfold isStrK at hk
          split at hk
          · exact ws_raise (C.k.exc _ g3) (C.calm hcm) tk h g1 g2
          · cases hk
        · exact h.elim
      · rename_i f _ hg
        split at h
        · rename_i hs
          obtain ⟨g1, g2, _, g3⟩ := glob_of C.toCxOk hg (fun z => nomatch z)
          obtain ⟨l, hr, T⟩ := C.k.exf _ f g3
          exact ws_raiseF T (hr.mono (Nat.le_succ _)) (C.calm hcm) tk ((hes _ _ _ _ rfl).soD (g := fun d ρ1 => .ex ⟨x, [f], [d]⟩ ρ1) C.toCxOk tk h fun d ρ1 h1 => h1) g1 g2 (star_cons hs X.env).1
        · exact h.elim
      · exact h.elim
    · exact h.elim
  · exact h.elim
theorem lc_wi {elt : Expr} {ifs : List Expr} {k : Int} {scope : Scope} {P : PV} (hI : SndI it tg) (ht : ∀ e ∈ ifs, SndT e) (he : SndE elt) (C : CxOk X c) (tk : Takes X W) (h : (evE (.ListComp elt [⟨tg, it, ifs, k⟩] scope pos) c ρ).post P R) :
    k = 0 ∧ ifs.length ≤ 1 ∧ X.calm = true ∧ BlkOk X.N X.env.scope scope (ownOf c.N scope) ∧ ∃ g, (∀ (s : Shared) (H : Hp) (D : Addr) (cl : List (Str × Addr)) (fp : List Addr), PG (X.blk s H scope (compEnvC scope cl D X.env) fp) tg g) ∧
      WI X W R tg it ρ (fun ds ρ0 => LcI X scope ((ownOf c.N scope).map (·.2)) elt ifs g ρ0 ds fun acc ρ' => P (.fr acc) ρ') ∧ ∀ x, foldedSetIterable it X.env x = pure x := by
  simp only [evE] at h
  split at h
  · rename_i t htg
    split at h
    · rename_i hc
      simp only [Bool.and_eq_true] at hc
      obtain ⟨⟨⟨hio, hcm⟩, hb⟩, hsub⟩ := hc
      unfold itOk at hio
      obtain ⟨hns, hil⟩ := Bool.and_eq_true_iff.mp hio
      have hil := of_decide_eq_true hil
      have htg' : k = 0 ∧ tgOf (c.blk scope) tg = some t := by
        unfold tgsOf at htg
        split at htg
        · rename_i h0; cases h0; exact ⟨rfl, htg⟩
        · cases htg
      obtain ⟨rfl, htg⟩ := htg'
      have ok : BlkOk X.N X.env.scope scope (ownOf c.N scope) := by
        rw [C.N, C.sc]; exact blkOk_by hb
      have hvs : ∀ i ∈ tgSl t, i ∈ (ownOf c.N scope).map (·.2) := fun i hi => by
        cases t with
        | one j =>
          have e := List.mem_singleton.mp hi
          subst e
          simpa [subsetV] using hsub
        | many is => have := List.all_eq_true.mp hsub i hi; simpa using this
      simp only [evG] at h
      rw [Oc.post_bind] at h
      refine ⟨rfl, hil, C.calm hcm, ok, gOf X.K t, fun s H D cl fp => ?_, hI X W R c ρ _ C tk (h.imp fun ds ρ0 h1 => ?_), fun x => fold_plain hns x⟩
      · exact pg_of (X := X.blk s H scope (compEnvC scope cl D X.env) fp) C.nd (C.calm hcm) htg fun i hi => blk_st C ok s H D cl fp (hvs i hi)
      · split at h1
        · rename_i hle
          rw [Oc.post_bind] at h1
          refine ⟨⟨fun j acc ρ' => (compGo t ((ownOf c.N scope).map (·.2)) (fun ρ => evTg [⟨tg, it, ifs, 0⟩] (c.blk scope) ρ) (fun ρ => (evE elt (c.blk scope) ρ).dat) (ds.drop j) acc ρ').post (fun acc ρ' => P (.fr acc) (bak ρ0 ρ' ((ownOf c.N scope).map (·.2)))) R, h1, fun j d' acc ρ' hd h2 => ?_, fun acc ρ' h2 => ?_⟩, hle⟩
          · have ed : ds.drop j = d' :: ds.drop (j + 1) := by
              obtain ⟨hlt, e⟩ := List.getElem?_eq_some_iff.mp hd
              rw [List.drop_eq_getElem_cons hlt, e]
            dsimp only at h2
            rw [ed] at h2
            unfold compGo at h2
            split at h2
            · exact h2.elim
            · rename_i ρ2 hs2
              refine tgb_of hs2 hsub fun s H D cl fp => ?_
              have C2 := C.blk ok.kind s H D cl fp
              refine snd_ifs hil ht C2 ?_
              have h2' : (match evIf ifs (c.blk scope) ρ2 with
                | .ok true ρ3 => match (evE elt (c.blk scope) ρ3).dat with
                  | .ok y ρ4 => compGo t ((ownOf c.N scope).map (·.2)) (fun ρ => evTg [⟨tg, it, ifs, 0⟩] (c.blk scope) ρ) (fun ρ => (evE elt (c.blk scope) ρ).dat) (ds.drop (j + 1)) (acc ++ [y]) (wip ρ4 ((ownOf c.N scope).map (·.2)))
                  | _ => .no
                | .ok false ρ3 => compGo t ((ownOf c.N scope).map (·.2)) (fun ρ => evTg [⟨tg, it, ifs, 0⟩] (c.blk scope) ρ) (fun ρ => (evE elt (c.blk scope) ρ).dat) (ds.drop (j + 1)) acc (wip ρ3 ((ownOf c.N scope).map (·.2)))
                | _ => .no : Oc (List Dat)).post (fun acc ρ' => P (.fr acc) (bak ρ0 ρ' ((ownOf c.N scope).map (·.2)))) R := h2
              cases hif : evIf ifs (c.blk scope) ρ2 with
              | no => rw [hif] at h2'; exact h2'.elim
              | ex x ρ3 => rw [hif] at h2'; exact h2'.elim
              | ok bb ρ3 =>
                rw [hif] at h2'
                cases bb with
                | false => exact ⟨fun z => (nomatch z), fun _ => h2'⟩
                | true =>
                  refine ⟨fun _ s H D cl fp => ?_, fun z => nomatch z⟩
                  have C3 := C.blk ok.kind s H D cl fp
                  dsimp only at h2'
                  refine he.we C3 takesW ?_
                  cases hel : (evE elt (c.blk scope) ρ3).dat with
                  | no => rw [hel] at h2'; exact h2'.elim
                  | ex x ρ4 => rw [hel] at h2'; exact h2'.elim
                  | ok y ρ4 => rw [hel] at h2'; exact h2'
          · dsimp only at h2
            rw [List.drop_length] at h2
            exact h2
        · exact h1.elim
    · exact h.elim
  · exact h.elim
theorem snd_setN (he : SndE e) (hn : notComp e = true) : SndS (.Assign [.Name y p1] e pos) := fun X W R c ρ k C tk h => by
  simp only [evS] at h
  split at h
  · rename_i i hi
    obtain ⟨g1, g2, g3⟩ := C.st i y hi
    have hv : WV X W R e ρ fun r ρ' => match r with | .pu d => k.nx (ρ'.set i (.pu d)) | .fr ds => k.nx (ρ'.set i (.ow false ds)) := he.so C.toCxOk tk h fun r ρ1 h1 => by cases r <;> exact h1
    exact ws_setV i C.nd hv g1 g2 (sw_plain hn) g3
  · exact h.elim
theorem snd_setLc {elt : Expr} {ifs : List Expr} {n : Int} {scope : Scope} (hI : SndI it tg) (ht : ∀ e ∈ ifs, SndT e) (he : SndE elt) : SndS (.Assign [.Name y p1] (.ListComp elt [⟨tg, it, ifs, n⟩] scope p2) pos) := fun X W R c ρ k C tk h => by
  simp only [evS] at h
  split at h
  · rename_i i hi
    obtain ⟨g1, g2, g3⟩ := C.st i y hi
    rw [Oc.post_so] at h
    have hb : ∃ b : Bool, swapsWith (.ListComp elt [⟨tg, it, ifs, n⟩] scope p2) (some (.Name y p1)) pos.line X.env = pure b ∧ (b = true → X.env.scope.names.lookup y = some .local) := by
      refine ⟨_, rfl, fun hb => ?_⟩
      simp only [Bool.and_eq_true] at hb
      obtain ⟨⟨⟨_, h1⟩, _⟩, _⟩ := hb
      exact eq_of_beq h1
    obtain ⟨b, hb, hl⟩ := hb
    cases b with
    | false =>
      have hv : WV X W R (.ListComp elt [⟨tg, it, ifs, n⟩] scope p2) ρ fun r ρ' => match r with | .pu d => k.nx (ρ'.set i (.pu d)) | .fr ds => k.nx (ρ'.set i (.ow false ds)) := snd_lc hI ht he X W R c ρ _ C.toCxOk tk (h.imp fun r ρ1 h1 => by cases r <;> exact h1)
      exact ws_setV i C.nd hv g1 g2 hb g3
    | true =>
      obtain ⟨rfl, h1, h2, h3, g, h4, h5, h6⟩ := lc_wi hI ht he C.toCxOk tk h
      exact ws_setLcV i (ownOf c.N scope) h1 C.nd h2 h3 h4 h5 hb g1 (hl rfl) h6
  · exact h.elim
end
end Sf
namespace Sf
open PySem L2
section
variable {X : Cx} {W : WX} {R : RX} {e a b t o tg it : Expr} {es : List Expr} {ss body : List Stmt} {ρ : List Sl} {k : Kn} {c : SC} {pos p p1 p2 apos : Pos} {x y m f : Str}
theorem snd_pass : SndS (.Pass pos) := fun X W R c ρ k C tk h => by
  simp only [evS] at h
  exact ws_pass h
theorem snd_brk : SndS (.Break pos) := fun X W R c ρ k C tk h => by
  simp only [evS] at h
  exact ws_brk h
theorem snd_cont : SndS (.Continue pos) := fun X W R c ρ k C tk h => by
  simp only [evS] at h
  exact ws_cont h
theorem snd_exprE (he : SndE e) (hn : notComp e = true) (h0 : ∀ c ρ, evS (.Expr e pos) c ρ = (evE e c ρ).so fun _ ρ1 => .nx ρ1) : SndS (.Expr e pos) := fun X W R c ρ k C tk h => by
  rw [h0] at h
  exact ws_expr (he.soD (g := fun _ ρ1 => .nx ρ1) C.toCxOk tk (by rw [Oc.post_so, Oc.post_dat]; rw [Oc.post_so] at h; exact h) fun r ρ1 h1 => h1) (sw_plain hn)
theorem snd_app (he : SndE (.Call (.Attribute o m apos) [a] [] p)) (ha : SndE a) : SndS (.Expr (.Call (.Attribute o m apos) [a] [] p) pos) := fun X W R c ρ k C tk h => by
  have gen : ((evE (.Call (.Attribute o m apos) [a] [] p) c ρ).so fun _ ρ1 => .nx ρ1).post k R → WS X W R (.Expr (.Call (.Attribute o m apos) [a] [] p) pos) ρ k := fun h =>
    ws_expr (he.soD (g := fun _ ρ1 => .nx ρ1) C.toCxOk tk (by rw [Oc.post_so, Oc.post_dat]; rw [Oc.post_so] at h; exact h) fun r ρ1 h1 => h1) rfl
  simp only [evS] at h
  split at h
  · rename_i hm
    obtain ⟨hm, hl⟩ := Bool.and_eq_true_iff.mp hm
    have hm := eq_of_beq hm
    subst hm
    split at h
    · rename_i i ho
      obtain ⟨x1, p1, rfl, hi, lb, ds, hr⟩ := ownV_eq ho
      obtain ⟨h1, h2, h3, h4⟩ := C.slot hi
      split at h
      · rename_i hs
        obtain ⟨s1, s2⟩ := star_cons hs X.env
        refine ws_app i (ha.soD C.toCxOk tk h fun d ρ1 q1 => ?_) h1 ⟨lb, ds, hr⟩ h2 h3 h4 rfl ?_ hl s1 rfl rfl
        · split at q1
          · rename_i lb ds hr1
            split at q1
            · rename_i hlt; exact ⟨lb, ds, hr1, hlt, q1⟩
            · exact q1.elim
          · exact q1.elim
        · rw [s1]; rfl
      · exact h.elim
    · exact gen h
  · exact gen h
theorem snd_fld (he : SndE e) : SndS (.Assign [.Attribute (.Name y p1) f p2] e pos) := fun X W R c ρ k C tk h => by
  simp only [evS] at h
  split at h
  · rename_i hn
    split at h
    · rename_i i hi
      obtain ⟨h1, h2, h3, h4⟩ := C.slot hi
      refine ws_fld i h1 (he.soD C.toCxOk tk h fun d ρ1 q1 => ?_) h2 h3 h4 (sw_plain hn)
      split at q1
      · rename_i D ks ds hr
        split at q1
        · rename_i hb
          simp only [Bool.and_eq_true, Bool.not_eq_true', decide_eq_true_eq] at hb
          obtain ⟨⟨b1, b2⟩, b3⟩ := hb
          obtain ⟨k1, k2⟩ := C.k.fld D f b1
          exact ⟨D, ks, ds, hr, (C.k.cls D k1).cl, k2, (fun z => by rw [List.contains_iff_mem.mpr z] at b2; cases b2), b3, q1⟩
        · exact q1.elim
      · exact q1.elim
    · exact h.elim
  · exact h.elim
theorem snd_put (he : SndE e) (hb : SndE b) : SndS (.Assign [.Subscript (.Name y p1) b p2] e pos) := fun X W R c ρ k C tk h => by
  simp only [evS] at h
  split at h
  · rename_i hn
    obtain ⟨hn, hsl⟩ := Bool.and_eq_true_iff.mp hn
    split at h
    · rename_i i hi
      obtain ⟨h1, h2, h3, h4⟩ := C.slot hi
      refine ws_putO i (he.soD C.toCxOk tk h fun d ρ1 q1 => ?_) h1 h2 h3 h4 (by simp only [swapsWithSole]; exact sw_plain hn) rfl ?_ ?_
      · split at q1
        · rename_i ho
          unfold isOw at ho
          refine ⟨?_, hb.soD C.toCxOk tk q1 fun d2 ρ2 q2 => ?_⟩
          · split at ho
            · rename_i lb ds hr; exact ⟨lb, ds, hr⟩
            · cases ho
          · split at q2
            · rename_i lb ds j hr hj
              split at q2
              · rename_i m hm; exact ⟨lb, ds, j, m, hr, (by unfold intOf at hj; split at hj <;> cases hj; rfl), hm, q2⟩
              · exact q2.elim
            · exact q2.elim
        · exact q1.elim
      · cases b <;> first | rfl | cases hsl
      · intro v; cases b <;> first | rfl | cases hsl
    · exact h.elim
  · exact h.elim
theorem ws_tup {tg : Expr} {g : TG} (hg : PG X tg g) (h : WE X W R e ρ fun d ρ1 => TgD X.K g d ρ1 k.nx) (hs : swapsWithSole [tg] e pos.line X.env = pure false) (hw : swappedStores [tg] e X.env = pure none) (h1 : (assignEach [tg] X.env).map (·.2) = [assign tg X.env]) : WS X W R (.Assign [tg] e pos) ρ k :=
  .of (ps_asg (pe_U (W := W)) hg hs hw h1) fun σ na F0 H0 F H D c n xo q => ⟨ρ, _, R, na, F0, H0, F, h, c, n, xo, fun d v ρ' F' H' c' n' hd t => t.run σ na F0 H0 F' H' v D.nx c' n' hd fun ρ2 σ2 n2 p => q.nx ρ2 σ2 F' H' c' n2 p⟩
theorem snd_unp {n : Nat} (he : SndE e) (h0 : isTupE e = false) : SndS (.Assign [.Tuple es n p2] e pos) := fun X W R c ρ k C tk h => by
  have h : (if notComp e && c.calm then match tgNs c es with
          | some is => (evE e c ρ).dat.so fun d ρ1 => match setTg (.many is) d ρ1 with
            | some ρ2 => .nx ρ2
            | none => .no
          | none => .no
        else .no : So).post k R := by
    simp only [evS] at h
    cases e <;> first | exact h | cases h0
  split at h
  · rename_i hn
    obtain ⟨hn, hcm⟩ := Bool.and_eq_true_iff.mp hn
    split at h
    · rename_i is his
      rw [Oc.post_so] at h
      obtain ⟨k1, k2, k3⟩ := pgs_of C.nd his fun i _ => C.st i
      refine ws_tup (pg_tup (C.calm hcm) k1 k2 k3) (he.we C.toCxOk tk (h.imp fun d ρ1 q1 => ?_)) (by simp only [swapsWithSole]; exact sw_plain hn) (by cases e <;> first | rfl | cases h0) rfl
      split at q1
      · rename_i ρ2 hs2; exact tgd_of (t := .many is) hs2 q1
      · exact q1.elim
    · exact h.elim
  · exact h.elim
/-- the body's wish, as the evaluator's outcome gives it -/
theorem SxOk.tr (C : SxOk X c) (pn : List (Addr × Obj)) (xe : Value → Shared → Prop) (hp : PassesOwn (model X.prog X.w) X.A X.env xe) : SxOk (X.tr pn xe) c :=
  ⟨⟨C.N, C.nd, C.sc, C.calm, C.kf, C.k⟩, hp, C.st, C.tp⟩
theorem SxOk.suite (C : SxOk X c) (a : Addr) (pn : List (Addr × Obj)) : SxOk (X.suite a pn) c.hot :=
  ⟨⟨C.N, C.nd, C.sc, (fun z => nomatch (show false = true from z)), C.kf, KOk.hot C.k⟩, PassesOwn.never, C.st, fun z => nomatch (show false = true from z)⟩
theorem names_of (C : CxOk X c) {x : Str} (h : isExcK (c.glob x) = true) : Names X x (.ref (He.ga X.K x)) := by
  obtain ⟨g1, g2, g3, g4⟩ := C.glob (x := x) (fun z => by rw [z] at h; cases h)
  exact ⟨g1, g2, .inl (C.k.exg x (by rw [← g4]; exact h))⟩
theorem snd_try {np : Pos} {b₀ : Stmt} {suite : List Stmt} (hb : SndSs body) (hs : SndSs (b₀ :: suite)) : SndS (.Try body [.ExceptHandler (some (.Name x np)) none (b₀ :: suite) p2] [] [] pos) := fun X W R c ρ k C tk h => by
  simp only [evS, hndN] at h
  split at h
  · rename_i hc
    obtain ⟨htop, hcm⟩ := Bool.and_eq_true_iff.mp hc
    split at h
    · rename_i hx
      obtain ⟨t1, t2⟩ := C.tp htop
      refine ws_try t1 t2 (names_of C.toCxOk hx) tk fun W' pn xe tk' hp => ?_
      refine hb (X.tr pn xe) W' _ c ρ k (C.tr pn xe hp) tk' ?_
      cases eb : evSs body c ρ with
      | nx ρ1 => rw [eb] at h; exact h
      | rt r ρ1 => rw [eb] at h; exact h
      | bk ρ1 => rw [eb] at h; exact h
      | ct ρ1 => rw [eb] at h; exact h
      | no => rw [eb] at h; exact h.elim
      | ex z ρ1 =>
        rw [eb] at h
        dsimp only at h
        show rTry X W R _ (b₀ :: suite) k z ρ1
        cases em : c.exm z.cls x with
        | none => rw [em] at h; exact h.elim
        | some bb =>
          rw [em] at h
          refine ⟨bb, C.k.exm z.cls x bb em, fun ht a oe pn => ?_, fun hf => ?_⟩
          · subst ht
            refine hs _ _ _ c.hot ρ1 k (C.suite a _) (fun u s' ⟨_, _, _, _, _, _, _, _, _, _, _, _, _, _, _, _, w⟩ => w.elim) ?_
            dsimp only at h
            simp only [evH] at h
            cases es : evSs (b₀ :: suite) c.hot ρ1 with
            | nx ρ2 => rw [es] at h; exact h
            | rt r ρ2 => rw [es] at h; exact h
            | bk ρ2 => rw [es] at h; exact h
            | ct ρ2 => rw [es] at h; exact h
            | no => rw [es] at h; exact h.elim
            | ex z ρ2 => rw [es] at h; exact h.elim
          · subst hf; exact h
    · exact h.elim
  · exact h.elim
theorem snd_tryAs {n : Str} {np pe pa pr : Pos} (hb : SndSs body) (hy : y = n) : SndS (.Try body [.ExceptHandler (some (.Name x np)) (some n) [.Return (some (.Attribute (.Name y pe) f pa)) pr] p2] [] [] pos) := fun X W R c ρ k C tk h => by
  subst hy
  simp only [evS, hndN, beq_self_eq_true, if_true] at h
  split at h
  · rename_i hc
    obtain ⟨htop, hcm⟩ := Bool.and_eq_true_iff.mp hc
    split at h
    · rename_i g i hx hi hlo
      split at h
      · rename_i hfg
        have hfg := eq_of_beq hfg
        subst hfg
        obtain ⟨t1, t2⟩ := C.tp htop
        obtain ⟨s1, s2, s3⟩ := C.st i y hi
        have hk : c.kind x = .excF f := by
          obtain ⟨_, _, _, g4⟩ := C.toCxOk.glob (x := x) (fun z => by rw [z] at hx; cases hx)
          rw [← g4]; exact hx
        obtain ⟨l, _, T⟩ := C.k.exf x f hk
        have hlo' : X.env.scope.names.lookup y = some .local := by
          unfold SC.isLo at hlo
          rw [C.sc]
          split at hlo
          · assumption
          · cases hlo
        have okn : okName y = true := by
          unfold SC.tslot at hi
          split at hi
          · rename_i hb'; exact (Bool.and_eq_true_iff.mp hb').1
          · cases hi
        obtain ⟨n1, n2, _⟩ := okN okn
        refine ws_try_as t1 t2 C.nd s1 hlo' (names_of C.toCxOk (by rw [hx]; rfl)) tk T.xf T.no (.inl hlo') n1 n2 fun W' pn xe tk' hp => ?_
        refine hb (X.tr pn xe) W' _ c ρ k (C.tr pn xe hp) tk' ?_
        cases eb : evSs body c ρ with
        | nx ρ1 => rw [eb] at h; exact h
        | rt r ρ1 => rw [eb] at h; exact h
        | bk ρ1 => rw [eb] at h; exact h
        | ct ρ1 => rw [eb] at h; exact h
        | no => rw [eb] at h; exact h.elim
        | ex z ρ1 =>
          rw [eb] at h
          dsimp only at h
          show rTryF X R x f i k z ρ1
          cases em : c.exm z.cls x with
          | none => rw [em] at h; exact h.elim
          | some bb =>
            rw [em] at h
            refine ⟨bb, C.k.exm z.cls x bb em, fun ht => ?_, fun hf => ?_⟩
            · subst ht
              dsimp only at h
              split at h
              · rename_i hz
                simp only [Bool.and_eq_true, decide_eq_true_eq, Bool.not_eq_true'] at hz
                obtain ⟨⟨z1, z2⟩, z3⟩ := hz
                split at h
                · rename_i d hd
                  exact ⟨eq_of_beq z1, (fun e => by rw [e] at z3; cases z3), z2, d, hd, h⟩
                · exact h.elim
              · exact h.elim
            · subst hf; exact h
      · exact h.elim
    · exact h.elim
  · exact h.elim
theorem no_s {s : Stmt} (h : ∀ c ρ, evS s c ρ = .no) : SndS s := fun X W R c ρ k C tk q => by
  rw [h] at q
  exact q.elim
end
end Sf
namespace Sf
open PySem L2
section
variable {pos p1 p2 : Pos} {y : Str}
theorem no_set {e : Expr} (h : ∀ c ρ, evE e c ρ = .no) : SndS (.Assign [.Name y p1] e pos) := no_s fun c ρ => by
  simp only [evS]
  split
  · rw [h]; rfl
  · rfl
theorem s_setN (e : Expr) : SndS (.Assign [.Name y p1] e pos) := by
  cases e with
  | ListComp elt gens scope p =>
    match gens with
    | [⟨tg, it, ifs, n⟩] => exact snd_setLc (sI it tg) (sTs ifs) (sE elt)
    | [] => exact no_set (lc_no (fun _ h => nomatch h))
    | _ :: _ :: _ => exact no_set (lc_no (fun _ h => nomatch h))
  | SetComp _ _ _ _ => exact no_set fun _ _ => rfl
  | DictComp _ _ _ _ _ => exact no_set fun _ _ => rfl
  | _ => exact snd_setN (sE _) rfl
theorem s_asg (ts : List Expr) (e : Expr) : SndS (.Assign ts e pos) := by
  match ts with
  | [] => exact no_s fun c ρ => by simp only [evS]
  | _ :: _ :: _ => exact no_s fun c ρ => by simp only [evS]
  | [t] =>
    cases t with
    | Name y p => exact s_setN e
    | Attribute o f p =>
      cases o with
      | Name y p => exact snd_fld (sE e)
      | _ => exact no_s fun c ρ => by simp only [evS]
    | Subscript o b p =>
      cases o with
      | Name y p => exact snd_put (sE e) (sE b)
      | _ => exact no_s fun c ρ => by simp only [evS]
    | Tuple es n p =>
      cases e with
      | Tuple _ _ _ => exact no_s fun c ρ => by simp only [evS]
      | _ => exact snd_unp (sE _) rfl
    | _ => exact no_s fun c ρ => by simp only [evS]
theorem s_expr (e : Expr) : SndS (.Expr e pos) := by
  cases e with
  | Call f args kws p =>
    cases f with
    | Attribute o m apos =>
      match args, kws with
      | [a], [] => exact snd_app (sE _) (sE a)
      | [], _ => exact snd_exprE (sE _) rfl fun _ _ => by simp only [evS, notComp]; rfl
      | _ :: _ :: _, _ => exact snd_exprE (sE _) rfl fun _ _ => by simp only [evS, notComp]; rfl
      | [_], _ :: _ => exact snd_exprE (sE _) rfl fun _ _ => by simp only [evS, notComp]; rfl
    | _ => exact snd_exprE (sE _) rfl fun _ _ => by simp only [evS, notComp]; rfl
  | ListComp elt gens scope p => exact no_s fun c ρ => by simp only [evS, notComp]; rfl
  | SetComp _ _ _ _ => exact no_s fun c ρ => by simp only [evS, notComp]; rfl
  | DictComp _ _ _ _ _ => exact no_s fun c ρ => by simp only [evS, notComp]; rfl
  | _ => exact snd_exprE (sE _) rfl fun _ _ => by simp only [evS, notComp]; rfl
theorem s_ret (o : Option Expr) : SndS (.Return o pos) := by
  cases o with
  | none => exact snd_ret0
  | some e => exact snd_ret (sE e)
end
theorem no_try {body hs els fin} {pos : Pos} (h : els = [] → fin = [] → hndN hs = none) : SndS (.Try body hs els fin pos) := no_s fun c ρ => by
  simp only [evS]
  split
  · rw [h rfl rfl]
    split <;> rfl
  · rfl
theorem s_raise {o ca : Option Expr} {pos : Pos} : SndS (.Raise o ca pos) := snd_raise fun _ _ e _ _ => sE e
theorem s_try (body : List Stmt) (hs : List ExceptHandler) (els fin : List Stmt) (pos : Pos) (hb : SndSs body) (hh : ∀ x np b suite p, hs = [.ExceptHandler (some (.Name x np)) none (b :: suite) p] → SndSs (b :: suite)) : SndS (.Try body hs els fin pos) := by
  match hs, els, fin, hh with
  | _, _ :: _, _, _ => exact no_try fun z => nomatch z
  | _, [], _ :: _, _ => exact no_try fun _ z => nomatch z
  | [], [], [], _ => exact no_try fun _ _ => rfl
  | _ :: _ :: _, [], [], _ => exact no_try fun _ _ => by simp [hndN]
  | [.ExceptHandler t nm bb p], [], [], hh =>
    match e : hndN [.ExceptHandler t nm bb p] with
    | none => exact no_try fun _ _ => e
    | some q =>
      unfold hndN at e
      split at e
      · rename_i e0
        cases e0
        exact snd_try hb (hh _ _ _ _ _ rfl)
      · rename_i e0
        split at e
        · rename_i hy
          cases e0
          exact snd_tryAs hb (eq_of_beq hy)
        · cases e
      · cases e
mutual
theorem sS : (s : Stmt) → SndS s
  | .Expr e _ => s_expr e
  | .Assign ts e _ => s_asg ts e
  | .Return o _ => s_ret o
  | .If t a b _ => snd_if (sT t) (sSs a) (sSs b)
  | .For tg it body els _ => match els with
    | [] => snd_for (sI it tg) (sSs body)
    | _ :: _ => no_s fun c ρ => by simp only [evS]
  | .While t body els _ => match els with
    | [] => snd_while (sT t) (sSs body)
    | _ :: _ => no_s fun c ρ => by simp only [evS]
  | .Raise _ _ _ => s_raise
  | .Try body hs els fin p => s_try body hs els fin p (sSs body) (sHs hs)
  | .Pass _ => snd_pass
  | .Break _ => snd_brk
  | .Continue _ => snd_cont
  | .FunctionDef .. => no_s fun c ρ => by simp only [evS]
  | .AsyncFunctionDef .. => no_s fun c ρ => by simp only [evS]
  | .ClassDef .. => no_s fun c ρ => by simp only [evS]
  | .Delete .. => no_s fun c ρ => by simp only [evS]
  | .TypeAlias .. => no_s fun c ρ => by simp only [evS]
  | .AugAssign .. => no_s fun c ρ => by simp only [evS]
  | .AnnAssign .. => no_s fun c ρ => by simp only [evS]
  | .AsyncFor .. => no_s fun c ρ => by simp only [evS]
  | .With .. => no_s fun c ρ => by simp only [evS]
  | .AsyncWith .. => no_s fun c ρ => by simp only [evS]
  | .Match .. => no_s fun c ρ => by simp only [evS]
  | .TryStar .. => no_s fun c ρ => by simp only [evS]
  | .Assert .. => no_s fun c ρ => by simp only [evS]
  | .Import .. => no_s fun c ρ => by simp only [evS]
  | .ImportFrom .. => no_s fun c ρ => by simp only [evS]
  | .Global .. => no_s fun c ρ => by simp only [evS]
  | .Nonlocal .. => no_s fun c ρ => by simp only [evS]
  termination_by s => (sizeOf s, 0)
theorem sHs : (hs : List ExceptHandler) → ∀ x np b suite p, hs = [.ExceptHandler (some (.Name x np)) none (b :: suite) p] → SndSs (b :: suite)
  | [.ExceptHandler t n ss q], x, np, b, suite, p, h => by
    have e : ss = b :: suite := by injection h with h _; injection h
    have := sSs ss
    rw [e] at this
    exact this
  | [], _, _, _, _, _, h => nomatch h
  | _ :: _ :: _, _, _, _, _, _, h => by injection h with _ h; cases h
  termination_by hs => (sizeOf hs, 0)
theorem sSs : (ss : List Stmt) → SndSs ss
  | [] => snd_ssn
  | s :: ss => snd_ssc (sS s) (sSs ss)
  termination_by ss => (sizeOf ss, 0)
end
end Sf
namespace Sf
open PySem L2
/-- the names, with what they do -/
def Tab.lk (T : Tab) (call : Calls) : Lk := ⟨T.kind, T.hasM, T.hasO, T.isC, T.isF, T.exm, true, call⟩
/-- a def as the top leaves it -/
structure DOk (K : PySem.W.Frag) (f : FnI) (a : Addr) : Prop where
  ex : ∃ x qual params dvs kws fd, FunD K x qual params f.body f.scope dvs kws a fd ∧ FnScope f.N f.ps f.scope ∧ ∀ j, j ≤ f.dfl.length → ∃ ds, Binds K fd f.ps ds ∧ Vals (f.dfl.drop j) ds
/-- what the top tells of a program's names -/
structure TOk (P : Program) (w : World) (K : PySem.W.Frag) (mg : Str → Option Value) (base : Heap) (T : Tab) : Prop where
  fn : ∀ x, T.kind x = .fn → ∃ f a, T.fn x = some f ∧ mg x = some (.ref a) ∧ PySem.W.keepIn K (.ref a) = true ∧ DOk K f a
  fnN : ∀ x, T.kind x = .fnN → ∃ f a, T.fn x = some f ∧ f.dfl = [] ∧ mg x = some (.ref a) ∧ PySem.W.keepIn K (.ref a) = true ∧ DOk K f a
  mt : ∀ C m, T.hasM C m = true → ∃ f a, T.mt C m = some f ∧ Meth K (He.ga K C) m a ∧ DOk K f a
  mo : ∀ C m k, T.hasO C m k = true → ∃ f a, T.mt C m = some f ∧ f.ps.length = k ∧ Meth K (He.ga K C) m a ∧ DOk K f a
  mkI : ∀ x, T.kind x = .cls → ∃ f a, T.mt x "__init__" = some f ∧ Mk K (He.ga K x) a ∧ mg x = some (.ref (He.ga K x)) ∧ DOk K f a
  st : ∀ A, (∀ x f, T.kind x = .excF f → ∃ l, Room (l + 2) A ∧ ExF P w K mg base x f l) → KOk P w K mg base A { T.lk calls0 with kind := fun x => hotK (T.kind x), hasM := fun _ _ => false, hasO := fun _ _ _ => false, rm := false }
  cls : ∀ x, T.kind x = .cls → T.isC x = true
  cm : ∀ C m, T.hasM C m = true → T.isC C = true
  co : ∀ C m k, T.hasO C m k = true → T.isC C = true
  op2 : ∀ C (op : Operator) m, opN op = some m → T.hasO C m 2 = true → (∃ g, PySem.W.findIn K (.ref (He.ga K C)) (PySem.dunder op.info.2) = some (some (.ref g))) ∧ PySem.W.findIn K (.ref (He.ga K C)) (PySem.dunderR op.info.2) = some none
  exF : ∀ x f, T.kind x = .excF f → ExF P w K mg base x f 1
section
variable {P : Program} {w : World} {K : PySem.W.Frag} {mg : Str → Option Value} {base : Heap} {T : Tab}
theorem kind_hot {g : GK} {T : Tab} {x : Str} (h : T.kind x = g) (hg : hotK g = g) : hotK (T.kind x) = g := by rw [h, hg]
/-- what a def's body may rely on -/
theorem body_ok {call : Calls} {f : FnI} {qual : Str} {a : Addr} {cdv : Value} {A : Around} {outer : List Env} {s0 : Shared} {H : Hp} {E : L2.XK} (S : FnScope f.N f.ps f.scope) (k : KOk P w K mg base (A.deeper (PyProof.Rows.envOfC qual f.scope s0.heap.objs.size a cdv)) (T.lk call)) :
    SxOk (cxB P w K mg base f.N qual f.scope a cdv A outer s0 H E) (T.sc f call) := by
  refine ⟨⟨rfl, S.nd, rfl, fun _ => rfl, S.kind, k⟩, passes_of rfl, fun i y hy => ?_, fun _ => ⟨rfl, rfl⟩⟩
  unfold SC.tslot at hy
  split at hy
  · rename_i hb
    obtain ⟨_, h2⟩ := Bool.and_eq_true_iff.mp hb
    refine ⟨ixOf_get hy, ?_⟩
    unfold SC.isLoc at h2
    split at h2
    · rename_i e; exact ⟨.inl e, .inr e⟩
    · rename_i e; exact ⟨.inr e, .inl rfl⟩
    · cases h2
  · cases hy
def runB (T : Tab) (call : Calls) (f : FnI) (as : List Dat) : FR := match evSs f.body (T.sc f call) (f.start (as.map .pu)) with
  | .nx _ => .ret (.pu dN)
  | .rt r _ => .ret r
  | .ex x _ => .ex x
  | _ => .no
theorem start_eq {f : FnI} {as : List Dat} : f.start (as.map .pu) = as.map .pu ++ List.replicate (f.N.length - as.length) Sl.no := by unfold FnI.start; rw [List.length_map]
theorem full_eq {f : FnI} {k : Nat} {ds as : List Dat} (h : f.full k ds = some as) : as = ds ++ (f.dfl.drop (f.dfl.length - (f.ps.length - k - ds.length))).map Dat.v ∧ as.length + k = f.ps.length := by
  unfold FnI.full at h
  split at h
  · dsimp only at h
    split at h
    · cases h; exact ⟨rfl, by assumption⟩
    · cases h
  · cases h
theorem fg_ok {call : Calls} {f : FnI} {a : Addr} {l : Nat} (D : DOk K f a) (hk : ∀ A, Room (l + 2) A → KOk P w K mg base A (T.lk call)) :
    ∃ fd, FnOk P w K mg base (L2.CX P w) (l + 3) a fd f.ps (lift K fun as Pd R => as.length = f.ps.length ∧ (runB T call f as).post Pd R) ∧ ∀ j, j ≤ f.dfl.length → ∃ ds, Binds K fd f.ps ds ∧ Vals (f.dfl.drop j) ds := by
  obtain ⟨x, qual, params, dvs, kws, fd, F, S, hb⟩ := D.ex
  refine ⟨fd, def_ok F S (fun ds Pd R h => h.1) (fun cdv A outer s0 H E ds Pd R hr h => ?_), hb⟩
  refine sSs f.body _ _ _ (T.sc f call) _ _ (body_ok S (hk _ hr)) takesB ?_
  obtain ⟨_, h⟩ := h
  unfold runB at h
  rw [start_eq] at h
  cases e : evSs f.body (T.sc f call) (ds.map Sl.pu ++ List.replicate (f.N.length - ds.length) Sl.no) with
  | nx ρ => rw [e] at h; exact h
  | rt r ρ => rw [e] at h; exact h
  | ex z ρ => rw [e] at h; exact h
  | bk ρ => rw [e] at h; exact h.elim
  | ct ρ => rw [e] at h; exact h.elim
  | no => rw [e] at h; exact h.elim
theorem runF_post {call : Calls} {f : FnI} {ds : List Dat} {Pd : Rv → Prop} {R : Exn → Prop} (h : (runF T call f ds).post Pd R) : (ds ++ (f.dfl.drop (f.dfl.length - (f.ps.length - ds.length))).map Dat.v).length = f.ps.length ∧ (runB T call f (ds ++ (f.dfl.drop (f.dfl.length - (f.ps.length - ds.length))).map Dat.v)).post Pd R := by
  unfold runF at h
  split at h
  · exact h.elim
  · rename_i as ha
    obtain ⟨e1, e2⟩ := full_eq ha
    subst e1
    rw [Nat.sub_zero] at h e2
    exact ⟨by omega, h⟩
def runBN (T : Tab) (call : Calls) (f : FnI) (us as : List Dat) : FN := match evSs f.body (T.sc f call) (f.start (.ow true us :: as.map .pu)) with
  | .nx ρ => match (ρ[0]? : Option Sl) with
    | some (.ow true us') => .ret (.pu dN) us'
    | _ => .no
  | .rt r ρ => match (ρ[0]? : Option Sl) with
    | some (.ow true us') => .ret r us'
    | _ => .no
  | .ex x ρ => match (ρ[0]? : Option Sl) with
    | some (.ow true us') => .ex x us'
    | _ => .no
  | _ => .no
theorem startN_eq {f : FnI} {s : Sl} {as : List Dat} : f.start (s :: as.map .pu) = s :: (as.map .pu ++ List.replicate (f.N.length - (as.length + 1)) Sl.no) := by unfold FnI.start; rw [List.length_cons, List.length_map]; rfl
theorem fgN_ok {call : Calls} {f : FnI} {a : Addr} {l : Nat} (D : DOk K f a) (hk : ∀ A, Room (l + 2) A → KOk P w K mg base A (T.lk call)) :
    ∃ fd, FnOk P w K mg base (L2.CX P w) (l + 3) a fd f.ps (liftN K fun us as Pd R => as.length + 1 = f.ps.length ∧ (runBN T call f us as).post Pd R) ∧ ∀ j, j ≤ f.dfl.length → ∃ ds, Binds K fd f.ps ds ∧ Vals (f.dfl.drop j) ds := by
  obtain ⟨x, qual, params, dvs, kws, fd, F, S, hb⟩ := D.ex
  refine ⟨fd, defN_ok F S (fun us ds Pd R h => h.1) (fun cdv A outer s0 H E us ds Pd R hr h => ?_), hb⟩
  refine sSs f.body _ _ _ (T.sc f call) _ _ (body_ok S (hk _ hr)) takesB ?_
  obtain ⟨_, h⟩ := h
  unfold runBN at h
  rw [startN_eq] at h
  cases e : evSs f.body (T.sc f call) (Sl.ow true us :: (ds.map Sl.pu ++ List.replicate (f.N.length - (ds.length + 1)) Sl.no)) with
  | nx ρ =>
    rw [e] at h
    dsimp only at h
    split at h
    · exact ⟨_, ‹_›, h⟩
    · exact h.elim
  | rt r ρ =>
    rw [e] at h
    dsimp only at h
    split at h
    · exact ⟨_, ‹_›, h⟩
    · exact h.elim
  | ex z ρ =>
    rw [e] at h
    dsimp only at h
    split at h
    · exact ⟨_, ‹_›, h⟩
    · exact h.elim
  | bk ρ => rw [e] at h; exact h.elim
  | ct ρ => rw [e] at h; exact h.elim
  | no => rw [e] at h; exact h.elim
theorem runN_post {call : Calls} {f : FnI} {us ds : List Dat} {Pd : Rv → List Dat → Prop} {R : Exn → List Dat → Prop} (h0 : f.dfl = []) (h : (runN T call f us ds).post Pd R) : ds.length + 1 = f.ps.length ∧ (runBN T call f us ds).post Pd R := by
  unfold runN at h
  split at h
  · exact h.elim
  · rename_i as ha
    obtain ⟨e1, e2⟩ := full_eq ha
    rw [h0] at e1
    simp at e1
    subst e1
    exact ⟨e2, h⟩
def runBI (T : Tab) (call : Calls) (C : Str) (f : FnI) (as : List Dat) : FR := match evSs f.body (T.sc f call) (f.start (.ob C [] [] :: as.map .pu)) with
  | .nx ρ => match (ρ[0]? : Option Sl) with
    | some (.ob D ks es) => if D == C then .ret (.pu (.ins C ks es)) else .no
    | _ => .no
  | .ex x _ => .ex x
  | _ => .no
theorem fgI_ok {call : Calls} {C : Str} {f : FnI} {a : Addr} {l : Nat} (D : DOk K f a) (hk : ∀ A, Room (l + 2) A → KOk P w K mg base A (T.lk call)) :
    ∃ fd, FnOk P w K mg base (L2.CX P w) (l + 3) a fd f.ps (liftI K C fun as Pd R => as.length + 1 = f.ps.length ∧ (runBI T call C f as).post (fun r => Pd r.dat) R) ∧ ∀ j, j ≤ f.dfl.length → ∃ ds, Binds K fd f.ps ds ∧ Vals (f.dfl.drop j) ds := by
  obtain ⟨x, qual, params, dvs, kws, fd, F, S, hb⟩ := D.ex
  refine ⟨fd, init_ok F S (fun ds Pd R h => h.1) (fun cdv A outer s0 H E ds Pd R hr h => ?_), hb⟩
  refine sSs f.body _ _ _ (T.sc f call) _ _ (body_ok S (hk _ hr)) takesB ?_
  obtain ⟨_, h⟩ := h
  unfold runBI at h
  rw [startN_eq] at h
  cases e : evSs f.body (T.sc f call) (Sl.ob C [] [] :: (ds.map Sl.pu ++ List.replicate (f.N.length - (ds.length + 1)) Sl.no)) with
  | nx ρ =>
    rw [e] at h
    dsimp only at h
    split at h
    · split at h
      · rename_i D ks es hr hD
        have := eq_of_beq hD
        subst this
        exact ⟨ks, es, hr, h⟩
      · exact h.elim
    · exact h.elim
  | rt r ρ => rw [e] at h; exact h.elim
  | ex z ρ => rw [e] at h; exact h
  | bk ρ => rw [e] at h; exact h.elim
  | ct ρ => rw [e] at h; exact h.elim
  | no => rw [e] at h; exact h.elim
theorem runI_post {call : Calls} {C : Str} {f : FnI} {ds : List Dat} {Pd : Rv → Prop} {R : Exn → Prop} (h : (runI T call C f ds).post Pd R) : (ds ++ (f.dfl.drop (f.dfl.length - (f.ps.length - 1 - ds.length))).map Dat.v).length + 1 = f.ps.length ∧ (runBI T call C f (ds ++ (f.dfl.drop (f.dfl.length - (f.ps.length - 1 - ds.length))).map Dat.v)).post Pd R := by
  unfold runI at h
  split at h
  · exact h.elim
  · rename_i as ha
    obtain ⟨e1, e2⟩ := full_eq ha
    subst e1
    exact ⟨e2, h⟩
theorem vals_nil {ds : List Value} (h : Vals [] ds) : ds = [] := by cases h; rfl
/-- every level of the evaluator tells what the program does -/
theorem kok (O : TOk P w K mg base T) : ∀ (n : Nat) (A : Around), Room (3 * n + 3) A → KOk P w K mg base A (T.lk (evD T n))
  | n, A, hr => by
    have hot := O.st A fun x f h => ⟨1, hr.mono (by omega), O.exF x f h⟩
    have hh : ∀ {x g}, T.kind x = g → hotK g = g → hotK (T.kind x) = g := fun h1 h2 => by rw [h1, h2]
    -- the level below
    have low : ∃ l, l + 2 ≤ 3 * n + 3 ∧ ∃ call : Calls, (∀ x ds Pd R, ((evD T n).fn x ds).post Pd R → ∃ f, T.fn x = some f ∧ (runF T call f ds).post Pd R) ∧
        (∀ x us ds Pd R, ((evD T n).fnN x us ds).post Pd R → ∃ f, T.fn x = some f ∧ (runN T call f us ds).post Pd R) ∧ (∀ C m ds Pd R, ((evD T n).mt C m ds).post Pd R → ∃ f, T.mt C m = some f ∧ (runF T call f ds).post Pd R) ∧
        (∀ C ds Pd R, ((evD T n).mkI C ds).post Pd R → ∃ f, T.mt C "__init__" = some f ∧ (runI T call C f ds).post Pd R) ∧
        (∀ f a, DOk K f a → ∃ fd, FnOk P w K mg base (L2.CX P w) l a fd f.ps (lift K fun as Pd R => as.length = f.ps.length ∧ (0 < n ∧ (runB T call f as).post Pd R)) ∧ ∀ j, j ≤ f.dfl.length → ∃ ds, Binds K fd f.ps ds ∧ Vals (f.dfl.drop j) ds) ∧
        (∀ f a, DOk K f a → ∃ fd, FnOk P w K mg base (L2.CX P w) l a fd f.ps (liftN K fun us as Pd R => as.length + 1 = f.ps.length ∧ (0 < n ∧ (runBN T call f us as).post Pd R)) ∧ ∀ j, j ≤ f.dfl.length → ∃ ds, Binds K fd f.ps ds ∧ Vals (f.dfl.drop j) ds) ∧
        (∀ C f a, DOk K f a → ∃ fd, FnOk P w K mg base (L2.CX P w) l a fd f.ps (liftI K C fun as Pd R => as.length + 1 = f.ps.length ∧ (0 < n ∧ (runBI T call C f as).post (fun r => Pd r.dat) R)) ∧ ∀ j, j ≤ f.dfl.length → ∃ ds, Binds K fd f.ps ds ∧ Vals (f.dfl.drop j) ds) := by
      cases n with
      | zero =>
        refine ⟨1, by omega, calls0, fun x ds Pd R h => h.elim, fun x us ds Pd R h => h.elim, fun C m ds Pd R h => h.elim, fun C ds Pd R h => h.elim, fun f a D => ?_, fun f a D => ?_, fun C f a D => ?_⟩
        · obtain ⟨x, qual, params, dvs, kws, fd, F, S, hb⟩ := D.ex
          exact ⟨fd, def_ok (k := 0) F S (fun ds Pd R h => h.1) (fun cdv A outer s0 H E ds Pd R hr h => absurd h.2.1 (Nat.lt_irrefl 0)), hb⟩
        · obtain ⟨x, qual, params, dvs, kws, fd, F, S, hb⟩ := D.ex
          exact ⟨fd, defN_ok (k := 0) F S (fun us ds Pd R h => h.1) (fun cdv A outer s0 H E us ds Pd R hr h => absurd h.2.1 (Nat.lt_irrefl 0)), hb⟩
        · obtain ⟨x, qual, params, dvs, kws, fd, F, S, hb⟩ := D.ex
          exact ⟨fd, init_ok (k := 0) F S (fun ds Pd R h => h.1) (fun cdv A outer s0 H E ds Pd R hr h => absurd h.2.1 (Nat.lt_irrefl 0)), hb⟩
      | succ n =>
        have hk : ∀ A, Room (3 * n + 1 + 2) A → KOk P w K mg base A (T.lk (evD T n)) := fun A r => kok O n A r
        have wk : ∀ {p q : Prop}, (p ∧ 0 < n + 1 ∧ q) = (p ∧ q) := fun {p q} => propext ⟨fun h => ⟨h.1, h.2.2⟩, fun h => ⟨h.1, Nat.succ_pos n, h.2⟩⟩
        refine ⟨3 * n + 4, by omega, evD T n, fun x ds Pd R h => ?_, fun x us ds Pd R h => ?_, fun C m ds Pd R h => ?_, fun C ds Pd R h => ?_, fun f a D => ?_, fun f a D => ?_, fun C f a D => ?_⟩
        · have h : (match T.fn x with | some f => runF T (evD T n) f ds | none => .no : FR).post Pd R := h
          split at h
          · exact ⟨_, ‹_›, h⟩
          · exact h.elim
        · have h : (match T.fn x with | some f => runN T (evD T n) f us ds | none => .no : FN).post Pd R := h
          split at h
          · exact ⟨_, ‹_›, h⟩
          · exact h.elim
        · have h : (match T.mt C m with | some f => runF T (evD T n) f ds | none => .no : FR).post Pd R := h
          split at h
          · exact ⟨_, ‹_›, h⟩
          · exact h.elim
        · have h : (match T.mt C "__init__" with | some f => runI T (evD T n) C f ds | none => .no : FR).post Pd R := h
          split at h
          · exact ⟨_, ‹_›, h⟩
          · exact h.elim
        · simp only [wk]; exact fg_ok D hk
        · simp only [wk]; exact fgN_ok D hk
        · simp only [wk]; exact fgI_ok D hk
    obtain ⟨l, hl, call, c1, c2, c3, c4, w1, w2, w3⟩ := low
    have pos : ∀ {x ds Pd R}, ((evD T n).fn x ds).post Pd R → 0 < n := fun h => by cases n with | zero => exact h.elim | succ n => exact Nat.succ_pos n
    have pos2 : ∀ {x us ds Pd R}, ((evD T n).fnN x us ds).post Pd R → 0 < n := fun h => by cases n with | zero => exact h.elim | succ n => exact Nat.succ_pos n
    have pos3 : ∀ {C m ds Pd R}, ((evD T n).mt C m ds).post Pd R → 0 < n := fun h => by cases n with | zero => exact h.elim | succ n => exact Nat.succ_pos n
    have pos4 : ∀ {C ds Pd R}, ((evD T n).mkI C ds).post Pd R → 0 < n := fun h => by cases n with | zero => exact h.elim | succ n => exact Nat.succ_pos n
    refine ⟨fun x h m => ?_, fun x h => ?_, fun C m h k => ?_, fun C m k h => ?_, fun x h m => ?_, hot.cls, O.cm, O.co, hot.fld, hot.sf, hot.nn, O.op2, hot.nf, hot.ne, hot.kit, fun x h => hot.exc x (hh h rfl), fun x f h => ⟨1, hr.mono (by omega), O.exF x f h⟩, hot.exm, fun x h => ?_, fun x i h => hot.glI x i (hh h rfl), fun x i h => hot.glS x i (hh h rfl), fun x i h => hot.glT x i (hh h rfl), fun x h => ?_, fun x h => hot.blt x (hh h rfl), fun x i h => hot.imp x i (hh h rfl), fun _ => hr.mono (by omega)⟩
    · obtain ⟨f, a, hf, hm, hkp, D⟩ := O.fn x h
      obtain ⟨fd, FO, hb⟩ := w1 f a D
      obtain ⟨ds, b1, b2⟩ := hb (f.dfl.length - (f.ps.length - m)) (by omega)
      refine ⟨l, _, _, hr.mono hl, ⟨a, fd, f.ps, ds, FO, hm, hkp, b1, b2⟩, fun es Pd R he hp => ?_⟩
      obtain ⟨f', hf', hq⟩ := c1 x es Pd R hp
      rw [hf] at hf'
      cases hf'
      obtain ⟨q1, q2⟩ := runF_post hq
      rw [← he]
      exact ⟨q1, pos hp, q2⟩
    · obtain ⟨f, a, hf, h0, hm, hkp, D⟩ := O.fnN x h
      obtain ⟨fd, FO, hb⟩ := w2 f a D
      obtain ⟨ds, b1, b2⟩ := hb f.dfl.length (Nat.le_refl _)
      rw [List.drop_length] at b2
      have := vals_nil b2
      subst this
      refine ⟨l, _, hr.mono hl, ⟨a, fd, f.ps, FO, hm, hkp, b1⟩, fun us es Pd R hp => ?_⟩
      obtain ⟨f', hf', hq⟩ := c2 x us es Pd R hp
      rw [hf] at hf'
      cases hf'
      obtain ⟨q1, q2⟩ := runN_post h0 hq
      exact ⟨q1, pos2 hp, q2⟩
    · obtain ⟨f, a, hf, hm, D⟩ := O.mt C m h
      obtain ⟨fd, FO, hb⟩ := w1 f a D
      obtain ⟨ds, b1, b2⟩ := hb (f.dfl.length - (f.ps.length - k)) (by omega)
      refine ⟨l, _, _, hr.mono hl, ⟨a, fd, f.ps, ds, FO, hm, b1, b2⟩, fun es Pd R he hp => ?_⟩
      obtain ⟨f', hf', hq⟩ := c3 C m es Pd R hp
      rw [hf] at hf'
      cases hf'
      obtain ⟨q1, q2⟩ := runF_post hq
      rw [← he]
      exact ⟨q1, pos3 hp, q2⟩
    · obtain ⟨f, a, hf, hk0, hm, D⟩ := O.mo C m k h
      obtain ⟨fd, FO, hb⟩ := w1 f a D
      obtain ⟨ds, b1, b2⟩ := hb f.dfl.length (Nat.le_refl _)
      rw [List.drop_length] at b2
      have := vals_nil b2
      subst this
      refine ⟨l, _, hr.mono hl, ⟨a, fd, f.ps, [], FO, hm, b1, .nil⟩, fun es Pd R he hp => ?_⟩
      obtain ⟨f', hf', hq⟩ := c3 C m es Pd R hp
      rw [hf] at hf'
      cases hf'
      obtain ⟨q1, q2⟩ := runF_post hq
      have e0 : f.ps.length - es.length = 0 := by omega
      rw [e0, Nat.sub_zero, List.drop_length, List.map_nil, List.append_nil] at q1 q2
      exact ⟨q1, pos3 hp, q2⟩
    · obtain ⟨f, a, hf, hM, hm, D⟩ := O.mkI x h
      obtain ⟨fd, FO, hb⟩ := w3 x f a D
      obtain ⟨ds, b1, b2⟩ := hb (f.dfl.length - (f.ps.length - 1 - m)) (by omega)
      refine ⟨l, _, _, hr.mono hl, ⟨a, fd, f.ps, ds, FO, hM, hm, b1, b2⟩, fun es Pd R he hp => ?_⟩
      obtain ⟨f', hf', hq⟩ := c4 x es _ R hp
      rw [hf] at hf'
      cases hf'
      obtain ⟨q1, q2⟩ := runI_post hq
      rw [← he]
      exact ⟨q1, pos4 hp, q2⟩
    · have h : isExcK (T.kind x) = true := h
      cases e : T.kind x with
      | exc => exact hot.exg x (by show isExcK (hotK (T.kind x)) = true; rw [e]; rfl)
      | excF f => exact (O.exF x f e).g
      | _ => rw [e] at h; cases h
    · obtain ⟨f, a, hf, hM, hm, D⟩ := O.mkI x h
      exact ⟨hm, O.cls x h⟩
end
end Sf
namespace Sf
open PySem L2
/-! ### a program's names in lists, and what its top must show of them -/
def tabOf (S : StD) : Tab where
  kind := fun x => (S.kinds.lookup x).getD .no
  hasM := fun C m => S.cls.contains C && !(m == "__init__") && (S.mts.lookup (C, m)).isSome
  hasO := fun C m k => S.cls.contains C && !(m == "__init__") && match S.mts.lookup (C, m) with
    | some f => f.ps.length == k
    | none => false
  isC := fun C => S.cls.contains C
  isF := fun C f => S.flds.contains (C, f)
  exm := fun z x => S.exm.lookup (z, x)
  fn := fun x => S.fns.lookup x
  mt := fun C m => S.mts.lookup (C, m)
section
variable (K : PySem.W.Frag) (S : StD)
end
theorem lookup_mem {α β : Type} [BEq α] [LawfulBEq α] {l : List (α × β)} {a : α} {b : β} (h : l.lookup a = some b) : (a, b) ∈ l := by
  induction l with
  | nil => cases h
  | cons p r ih =>
    obtain ⟨x, y⟩ := p
    rw [List.lookup_cons] at h
    split at h
    · rename_i e
      cases h
      rw [eq_of_beq e]
      exact List.mem_cons_self
    · exact List.mem_cons_of_mem _ (ih h)
section
variable {P : Program} {w : World} {K : PySem.W.Frag} {mg : Str → Option Value} {base h : Heap} {S : StD}
theorem oexB_ok {C : Addr} (h : oexB K C = true) : OexC K C := by
  obtain ⟨h0, h⟩ := He.ba h
  obtain ⟨h1, h⟩ := He.ba h
  obtain ⟨h2, h⟩ := He.ba h
  obtain ⟨h3, h4⟩ := He.ba h
  refine ⟨?_, He.eqO_ok h1, of_decide_eq_true h2, of_decide_eq_true h3, h4⟩
  split at h0
  · rename_i dd cd sl ho
    split at h0
    · rename_i C' bm k0 k1 k2 k3 n k5 hm hs
      simp only [Bool.and_eq_true, beq_iff_eq, Bool.not_eq_true'] at h0
      obtain ⟨⟨⟨⟨rfl, rfl⟩, hdel⟩, hdct⟩, ht⟩ := h0
      obtain ⟨nm, bs, mro, ns, qn, hd, sn, sub, ab, col, del⟩ := cd
      dsimp only at hm hdel hdct
      subst hm hdel hdct
      have hsl : sl = #[k0, k1, k2, k3, some (.builtin "ValueError.__new__"), k5] := by
        obtain ⟨l⟩ := sl
        simp only at hs
        rw [hs]
      subst hsl
      exact ⟨nm, qn, ns, bs, bm, sn, sub, ab, col, dd, k0, k1, k2, k3, k5, ho, ht⟩
    · cases h0
  · cases h0
theorem exc_of {x : Str} (g : mg x = some (.ref (He.ga K x))) (c : (He.Fa.exc x).ok K = true) : ExcF K mg x := by
  obtain ⟨h1, h2, h3, h4⟩ := He.exc_ok c
  exact ⟨g, ⟨He.veBase, h1, rfl⟩, h2, h3, h4⟩
theorem kind_mem {x : Str} {g : GK} (h : (tabOf S).kind x = g) (hn : g ≠ .no) : (x, g) ∈ S.kinds := by
  have h : (S.kinds.lookup x).getD .no = g := h
  cases e : S.kinds.lookup x with
  | none => rw [e] at h; exact absurd h.symm hn
  | some g' => rw [e] at h; cases h; exact lookup_mem e
theorem opN_mem {op : Operator} {m : Str} (h : opN op = some m) : (op, m) ∈ opNames := by
  unfold opN at h
  split at h <;> first | (cases h; done) | (cases h; simp [opNames])
theorem law_glo (X : K.In h) (G : h.Ns mainGlobals mg) (c : statB K S = true) : mg ("law" : Str) = some (.ref (He.ga K "law")) := PySem.W.mg_of X G (He.eqO_ok (He.ba c).1)
theorem exfB_ok {x f : Str} (c : statB K S = true) (hm : (x, GK.excF f) ∈ S.kinds) : oexB K (He.ga K x) = true ∧ PySem.W.findIn K (.ref (He.ga K x)) f = some none ∧ PySem.W.findIn K (.ref (He.ga K x)) "__init__" = some (some (.ref (He.ma K (He.ga K x) "__init__"))) ∧ PySem.W.typeIn K (.ref (He.ma K (He.ga K x) "__init__")) = some (.type "function") := by
  have q : gkB K S x (.excF f) = true := List.all_eq_true.mp (He.ba (He.ba (He.ba c).2).2).1 _ hm
  unfold gkB at q
  obtain ⟨_, q⟩ := He.ba q
  obtain ⟨q2, q⟩ := He.ba q
  obtain ⟨_, q⟩ := He.ba q
  obtain ⟨q4, q⟩ := He.ba q
  obtain ⟨q5, q6⟩ := He.ba q
  exact ⟨q2, He.eqO_ok q4, He.eqO_ok q5, of_decide_eq_true q6⟩
/-- what the lists' defs leave -/
structure DefsOk (P : Program) (w : World) (K : PySem.W.Frag) (mg : Str → Option Value) (base : Heap) (S : StD) : Prop where
  fns : ∀ p ∈ S.fns, PySem.W.keepIn K (.ref (He.ga K p.1)) = true ∧ DOk K p.2 (He.ga K p.1)
  mts : ∀ p ∈ S.mts, DOk K p.2 (He.ma K (He.ga K p.1.1) p.1.2)
  exF : ∀ p ∈ S.kinds, ∀ f, p.2 = .excF f → ∃ fI fd ps, PySem.W.findIn K (.ref (He.ga K p.1)) "__init__" = some (some (.ref fI)) ∧ PySem.W.typeIn K (.ref fI) = some (.type "function") ∧ FnOk P w K mg base (L2.CX P w) 1 fI fd ps (liftX K p.1 f) ∧ Binds K fd ps []
theorem tok (X : K.In h) (G : h.Ns mainGlobals mg) (c : statB K S = true) (D : DefsOk P w K mg base S) : TOk P w K mg base (tabOf S) := by
  obtain ⟨_, c⟩ := He.ba c
  obtain ⟨c0, c⟩ := He.ba c
  obtain ⟨c1, c⟩ := He.ba c
  obtain ⟨c2, c⟩ := He.ba c
  obtain ⟨c3, c⟩ := He.ba c
  obtain ⟨c4, c⟩ := He.ba c
  obtain ⟨c5, c6⟩ := He.ba c
  obtain ⟨o1, o2⟩ := He.ba c0
  have gk : ∀ {x g}, (tabOf S).kind x = g → g ≠ .no → gkB K S x g = true := fun hx hn => List.all_eq_true.mp c1 _ (kind_mem hx hn)
  have glo : ∀ {x}, gloB K x = true → mg x = some (.ref (He.ga K x)) := fun {x} hx => PySem.W.mg_of X G (He.eqO_ok hx)
  have clsI : ∀ C, S.cls.contains C = true → ClsI K (He.ga K C) ∧ PySem.W.selfFirst K (He.ga K C) = true ∧ (PySem.W.findIn K (.ref (He.ga K C)) "__ne__" = some (some (.builtin "object.__ne__")) ∧ PySem.W.subIn K (.ref (He.ga K C)) (.type "object") = some true) ∧ (∀ t ∈ tysB S, PySem.W.notFirst K (He.ga K C) (tyV K t) = true) ∧
      ∀ D, S.cls.contains D = true → C ≠ D → He.ga K C ≠ He.ga K D ∧ PySem.W.subIn K (.ref (He.ga K D)) (.ref (He.ga K C)) = some false := fun C hC => by
    have q := List.all_eq_true.mp c2 C (List.contains_iff_mem.mp hC)
    unfold clsB at q
    obtain ⟨q1, q⟩ := He.ba q
    obtain ⟨q2, q⟩ := He.ba q
    obtain ⟨q3, q⟩ := He.ba q
    obtain ⟨q4, q⟩ := He.ba q
    obtain ⟨q5, q⟩ := He.ba q
    obtain ⟨q6, q⟩ := He.ba q
    obtain ⟨q7, q8⟩ := He.ba q
    refine ⟨⟨He.cls_ok q1, He.eqO_ok q2, He.eqO_ok o1, of_decide_eq_true o2, of_decide_eq_true q3⟩, q4, ⟨He.eqO_ok q5, of_decide_eq_true q6⟩, fun t ht => List.all_eq_true.mp q7 t ht, fun D hD hne => ?_⟩
    have q9 := List.all_eq_true.mp q8 D (List.contains_iff_mem.mp hD)
    rcases Bool.or_eq_true_iff.mp q9 with z | z
    · exact absurd (eq_of_beq z) hne
    · obtain ⟨z1, z2⟩ := He.ba z
      exact ⟨of_decide_eq_true z1, of_decide_eq_true z2⟩
  have tys : ∀ t, knownT (tabOf S).isC t = true → t ∈ tysB S := fun t ht => by
    cases t with
    | cls C => exact List.mem_append_right _ (List.mem_map.mpr ⟨C, List.contains_iff_mem.mp ht, rfl⟩)
    | _ => exact List.mem_append_left _ (by simp [baseT])
  have mtm : ∀ C m, S.cls.contains C = true → (m == ("__init__" : Str)) = false → ∀ f, S.mts.lookup (C, m) = some f → Meth K (He.ga K C) m (He.ma K (He.ga K C) m) ∧ DOk K f (He.ma K (He.ga K C) m) ∧ ∀ op, opN op = some m → PySem.W.findIn K (.ref (He.ga K C)) (PySem.dunderR op.info.2) = some none := fun C m hC hm f hf => by
    have hme := lookup_mem hf
    have q := List.all_eq_true.mp c4 _ hme
    unfold mtB at q
    dsimp only at q
    rw [hm, Bool.false_or] at q
    obtain ⟨q1, q2⟩ := He.ba q
    refine ⟨He.meth_ok q1, D.mts _ hme, fun op hop => ?_⟩
    have q3 := List.all_eq_true.mp q2 _ (opN_mem hop)
    dsimp only at q3
    rw [beq_self_eq_true, Bool.not_true, Bool.false_or] at q3
    exact He.eqO_ok q3
  have exF : ∀ x f, (tabOf S).kind x = .excF f → ExF P w K mg base x f 1 := fun x f hx => by
    have q := gk hx (fun z => nomatch z)
    unfold gkB at q
    obtain ⟨q1, q⟩ := He.ba q
    obtain ⟨q2, q⟩ := He.ba q
    obtain ⟨q3, q⟩ := He.ba q
    obtain ⟨q4, _⟩ := He.ba q
    exact ⟨oexB_ok q2, xfB_ok q3, He.eqO_ok q4, glo q1, D.exF _ (kind_mem hx (fun z => nomatch z)) f rfl⟩
  refine ⟨fun x hx => ?_, fun x hx => ?_, fun C m hC => ?_, fun C m k hC => ?_, fun x hx => ?_, fun A hA => ?_, fun x hx => ?_, fun C m hC => ?_, fun C m k hC => ?_, fun C op m hop hC => ?_, exF⟩
  · have q := gk hx (fun z => nomatch z)
    unfold gkB at q
    obtain ⟨q1, q2⟩ := He.ba q
    obtain ⟨f, hf⟩ := Option.isSome_iff_exists.mp q2
    obtain ⟨d1, d2⟩ := D.fns _ (lookup_mem hf)
    exact ⟨f, _, hf, glo q1, d1, d2⟩
  · have q := gk hx (fun z => nomatch z)
    unfold gkB at q
    obtain ⟨q1, q2⟩ := He.ba q
    split at q2
    · rename_i f hf
      obtain ⟨d1, d2⟩ := D.fns _ (lookup_mem hf)
      exact ⟨f, _, hf, List.isEmpty_iff.mp q2, glo q1, d1, d2⟩
    · cases q2
  · obtain ⟨hC, h2⟩ := He.ba hC
    obtain ⟨hC, h1⟩ := He.ba hC
    obtain ⟨f, hf⟩ := Option.isSome_iff_exists.mp h2
    obtain ⟨d1, d2, _⟩ := mtm C m hC (by simpa using h1) f hf
    exact ⟨f, _, hf, d1, d2⟩
  · obtain ⟨hC, h2⟩ := He.ba hC
    obtain ⟨hC, h1⟩ := He.ba hC
    split at h2
    · rename_i f hf
      obtain ⟨d1, d2, _⟩ := mtm C m hC (by simpa using h1) f hf
      exact ⟨f, _, hf, eq_of_beq h2, d1, d2⟩
    · cases h2
  · have q := gk hx (fun z => nomatch z)
    unfold gkB at q
    obtain ⟨q1, q⟩ := He.ba q
    obtain ⟨q2, q⟩ := He.ba q
    obtain ⟨q3, q4⟩ := He.ba q
    obtain ⟨f, hf⟩ := Option.isSome_iff_exists.mp q4
    exact ⟨f, _, hf, He.mkr_ok q2, glo q1, D.mts _ (lookup_mem hf)⟩
  · have hk : ∀ {x g}, hotK ((tabOf S).kind x) = g → g ≠ .no → (tabOf S).kind x = g ∧ g ≠ .fn ∧ g ≠ .fnN ∧ g ≠ .cls ∧ ∀ f, g ≠ .excF f := fun {x g} h hn => by
      cases e : (tabOf S).kind x <;> rw [e] at h <;> unfold hotK at h <;> dsimp only at h <;> subst h <;> first | exact absurd rfl hn | exact ⟨rfl, (fun z => nomatch z), (fun z => nomatch z), (fun z => nomatch z), fun _ z => nomatch z⟩
    refine ⟨fun x h => absurd rfl (hk h (fun z => nomatch z)).2.1, fun x h => absurd rfl (hk h (fun z => nomatch z)).2.2.1, fun C m h => (nomatch (show false = true from h)), fun C m n h => (nomatch (show false = true from h)), fun x h => absurd rfl (hk h (fun z => nomatch z)).2.2.2.1, fun C hC => (clsI C hC).1, fun C m h => (nomatch (show false = true from h)), fun C m n h => (nomatch (show false = true from h)), fun C f hf => ?_, fun C hC => (clsI C hC).2.1, fun C D hC hD hne => (clsI C hC).2.2.2.2 D hD hne, fun C op m _ h => (nomatch (show false = true from h)), fun C t hC ht => (clsI C hC).2.2.2.1 t (tys t ht), fun C hC => (clsI C hC).2.2.1, fun t u ht hu => ?_, fun x hx => ?_, fun x f hx => absurd rfl ((hk hx (fun z => nomatch z)).2.2.2.2 f), fun z x b hz => ?_, fun x hx => ?_, fun x i hx => ?_, fun x i hx => ?_, fun x is hx => ?_, fun x h => absurd rfl (hk h (fun z => nomatch z)).2.2.2.1, fun x hx => ?_, fun x i hx => ?_, fun h => nomatch (show false = true from h)⟩
    · have q := List.all_eq_true.mp c3 _ (List.contains_iff_mem.mp hf)
      obtain ⟨q1, q2⟩ := He.ba q
      exact ⟨q1, He.eqO_ok q2⟩
    · exact of_decide_eq_true (List.all_eq_true.mp (List.all_eq_true.mp c6 t (tys t ht)) u (tys u hu))
    · have q := gk (hk hx (fun z => nomatch z)).1 (fun z => nomatch z)
      unfold gkB at q
      obtain ⟨q1, q2⟩ := He.ba q
      exact exc_of (glo q1) q2
    · exact of_decide_eq_true (List.all_eq_true.mp c5 _ (lookup_mem hz))
    · have hx : isExcK (hotK ((tabOf S).kind x)) = true := hx
      cases e : (tabOf S).kind x <;> rw [e] at hx <;> first | (cases hx; done) | skip
      have q := gk e (fun z => nomatch z)
      unfold gkB at q
      exact glo (He.ba q).1
    · exact He.int_ok X G (gk (hk hx (fun z => nomatch z)).1 (fun z => nomatch z))
    · exact He.str_ok X G (gk (hk hx (fun z => nomatch z)).1 (fun z => nomatch z))
    · have q := gk (hk hx (fun z => nomatch z)).1 (fun z => nomatch z)
      unfold gkB at q
      obtain ⟨q1, q2⟩ := He.ba q
      exact ⟨_, glo q1, fun H => by have := He.tupB_ok q2 H; rw [List.map_map] at this; exact this⟩
    · exact He.free_ok X G (gk (hk hx (fun z => nomatch z)).1 (fun z => nomatch z))
    · exact PySem.W.mg_of X G (He.eqO_ok (gk (hk hx (fun z => nomatch z)).1 (fun z => nomatch z)))
  · have q := gk hx (fun z => nomatch z)
    unfold gkB at q
    obtain ⟨q1, q⟩ := He.ba q
    obtain ⟨q2, q⟩ := He.ba q
    exact (He.ba q).1
  · exact (He.ba (He.ba hC).1).1
  · exact (He.ba (He.ba hC).1).1
  · obtain ⟨hC, h2⟩ := He.ba hC
    obtain ⟨hC, h1⟩ := He.ba hC
    split at h2
    · rename_i f hf
      obtain ⟨d1, d2, d3⟩ := mtm C m hC (by simpa using h1) f hf
      refine ⟨⟨He.ma K (He.ga K C) m, ?_⟩, d3 op hop⟩
      have e : PySem.dunder op.info.2 = m := by
        unfold opN at hop
        split at hop <;> first | (cases hop; done) | (cases hop; rfl)
      rw [e]
      exact d1.at_
    · cases h2
/-! ### the law -/
theorem isl_ints {K : PySem.W.Frag} {F : Hp} : ∀ ns : List Int, Isl K (ns.map dI) (ns.map V.int) F
  | [] => .nil
  | _ :: ns => .cons .v (isl_ints ns)
/-- the script, as it comes in -/
def spLaw : DSp := fun ds Pd _ => ∃ ns : List Int, ds = [.rol (ns.map dI)] ∧ ns.length ≤ 63 ∧ Pd (.pu (dB true))
theorem law_fn {f : FnI} {a : Addr} {n : Nat} {x qual : Str} {params : Arguments} {dvs : List V} {kws : List (Str × V)} {fd : FuncData} (O : TOk P w K mg base (tabOf S)) (F : FunD K x qual params f.body f.scope dvs kws a fd) (S' : FnScope f.N f.ps f.scope) (hps : f.ps.length = 1)
    (hl : ∀ ns : List Int, ns.length ≤ 63 → runB (tabOf S) (evD (tabOf S) n) f [.rol (ns.map dI)] = .ret (.pu (dB true))) : FnOk P w K mg base (L2.CX P w) (3 * n + 4) a fd f.ps (lift K spLaw) := by
  refine def_ok (k := 3 * n + 3) F S' (fun ds Pd R h => ?_) (fun cdv A outer s0 H E ds Pd R hr h => ?_)
  · obtain ⟨ns, rfl, _⟩ := h
    exact hps.symm
  · obtain ⟨ns, rfl, h63, hp⟩ := h
    refine sSs f.body _ _ _ ((tabOf S).sc f (evD (tabOf S) n)) _ _ (body_ok S' (kok O n _ hr)) takesB ?_
    have h := hl ns h63
    unfold runB at h
    rw [start_eq] at h
    cases e : evSs f.body ((tabOf S).sc f (evD (tabOf S) n)) ([Dat.rol (ns.map dI)].map Sl.pu ++ List.replicate (f.N.length - [Dat.rol (ns.map dI)].length) Sl.no) with
    | nx ρ => rw [e] at h; cases h
    | rt r ρ => rw [e] at h; cases h; exact hp
    | ex z ρ => rw [e] at h; cases h
    | bk ρ => rw [e] at h; cases h
    | ct ρ => rw [e] at h; cases h
    | no => rw [e] at h; cases h
end
open PyProof.Rows PySem.Spec in
theorem walk_e {l : PySem.W.OpenLaw} {k : Nat} {q : Program} {loose : List Str} {XP : (Str → Option Value) → Heap → Prop} {YP : World → Heap → Prop} {d : DefRec} {x : Str} (h63 : l.most = some 63) (nd : d.params.defaults = []) (room : Room k callerA)
    (at_ : ∀ (w : World) (mg : Str → Option Value) (fa : Addr) (h : Heap), YP w h → h.Ns mainGlobals mg → mg d.name = some (.ref fa) → ∃ (K : PySem.W.Frag) (fd : FuncData), K.In h ∧ (∀ (s : Shared) (u : Value), BindsTo s fd ⟨[u], []⟩ [(x, u)]) ∧
      ∀ base : Heap, K.In base → base.Ns mainGlobals mg → FnOk l.prog w K mg base (L2.CX l.prog w) k fa fd [x] (lift K spLaw)) : PySem.W.WalkO q loose XP YP l.row.toRowW d [] (fun f vs => PySem.call f vs) := by
  refine Att.attach_call h63 nd fun w t₀ t₁ mg mb fa o pm cd doc a us ns G Y ho hd hcd named obj_ ints_ few_ goal_ => ?_
  obtain ⟨K, fd, KX, binds_, keeps_⟩ := at_ w mg fa _ Y G.T.g named
  refine law_call KX G.T.g G.T.b G.T.builtins G.T.nolimit goal_ obj_ ints_ (Nat.le_trans few_ (by decide)) room keeps_ binds_ (fun H hO hS => ?_) fun H e s' hx => ?_
  · exact ⟨H, [.rol (ns.map dI)], fun d => d = .pu (dB true), fun _ => False, Ex.refl H, .cons (.rol hS (isl_ints ns)) .nil, ⟨ns, rfl, few_, rfl⟩, fun d v F' H' _ hd e => by subst e; cases hd; exact is_v ‹_›, fun _ _ _ _ z => z.elim⟩
  · obtain ⟨_, _, _, _, _, _, _, _, _, _, _, _, z⟩ := hx
    exact z
end Sf
/-! ### the evaluator walked by simp -/
namespace Sf
open PySem L2
section
variable {T : Tab} {f : FnI} {call : Calls} {c : SC} {α β : Type}
theorem sc_calm : (T.sc f call).calm = true := rfl
theorem sc_top : (T.sc f call).top = true := rfl
theorem sc_lk : (T.sc f call).toLk = T.lk call := rfl
theorem sc_N : (T.sc f call).N = f.N := rfl
theorem lk_kind : (T.lk call).kind = T.kind := rfl
theorem lk_hasM : (T.lk call).hasM = T.hasM := rfl
theorem lk_hasO : (T.lk call).hasO = T.hasO := rfl
theorem lk_isC : (T.lk call).isC = T.isC := rfl
theorem lk_isF : (T.lk call).isF = T.isF := rfl
theorem lk_exm : (T.lk call).exm = T.exm := rfl
theorem lk_rm : (T.lk call).rm = true := rfl
theorem lk_call : (T.lk call).call = call := rfl
theorem hot_slot {x : Str} : c.hot.slot x = c.slot x := rfl
theorem hot_tslot {x : Str} : c.hot.tslot x = c.tslot x := rfl
theorem hot_calm : c.hot.calm = false := rfl
theorem hot_top : c.hot.top = false := rfl
theorem hot_glob {x : Str} : c.hot.glob x = hotK (c.glob x) := by
  show (match okName x && c.isGl x with | true => hotK (c.kind x) | false => GK.no) = hotK (match okName x && c.isGl x with | true => c.kind x | false => .no)
  cases okName x && c.isGl x <;> rfl
theorem cls_int (h : c.glob "int" = .blt) : clsOf c "int" = some .int := by unfold clsOf; rw [h]; rfl
theorem cls_bool (h : c.glob "bool" = .blt) : clsOf c "bool" = some .bl := by unfold clsOf; rw [h]; rfl
theorem cls_str (h : c.glob "str" = .blt) : clsOf c "str" = some .str := by unfold clsOf; rw [h]; rfl
theorem cls_list (h : c.glob "list" = .blt) : clsOf c "list" = some .lst := by unfold clsOf; rw [h]; rfl
theorem cls_tuple (h : c.glob "tuple" = .blt) : clsOf c "tuple" = some .tup := by unfold clsOf; rw [h]; rfl
theorem cls_own {x : Str} (h : c.glob x = .cls) : clsOf c x = some (.cls x) := by unfold clsOf; rw [h]
theorem bind_ok {a : α} {ρ : List Sl} {g : α → List Sl → Oc β} : (Oc.ok a ρ).bind g = g a ρ := rfl
theorem bind_ex {x : Exn} {ρ : List Sl} {g : α → List Sl → Oc β} : (Oc.ex x ρ : Oc α).bind g = .ex x ρ := rfl
theorem bind_no {g : α → List Sl → Oc β} : (Oc.no : Oc α).bind g = .no := rfl
theorem so_ok {a : α} {ρ : List Sl} {g : α → List Sl → So} : (Oc.ok a ρ).so g = g a ρ := rfl
theorem so_ex {x : Exn} {ρ : List Sl} {g : α → List Sl → So} : (Oc.ex x ρ : Oc α).so g = .ex x ρ := rfl
theorem so_no {g : α → List Sl → So} : (Oc.no : Oc α).so g = .no := rfl
theorem dat_ok {r : Rv} {ρ : List Sl} : (Oc.ok r ρ).dat = .ok r.dat ρ := rfl
theorem dat_ex {x : Exn} {ρ : List Sl} : (Oc.ex x ρ : Oc Rv).dat = .ex x ρ := rfl
theorem dat_no : (Oc.no : Oc Rv).dat = .no := rfl
theorem pu_ok {r : Dat} {ρ : List Sl} : (Oc.ok r ρ).pu = .ok (.pu r) ρ := rfl
theorem pu_ex {x : Exn} {ρ : List Sl} : (Oc.ex x ρ : Oc Dat).pu = .ex x ρ := rfl
theorem pu_no : (Oc.no : Oc Dat).pu = .no := rfl
theorem of_some {a : α} {ρ : List Sl} : Oc.of (some a) ρ = .ok a ρ := rfl
theorem of_none {ρ : List Sl} : Oc.of (none : Option α) ρ = .no := rfl
theorem sb_nx {ρ : List Sl} {g : List Sl → So} : (So.nx ρ).bind g = g ρ := rfl
theorem sb_rt {r : Rv} {ρ : List Sl} {g : List Sl → So} : (So.rt r ρ).bind g = .rt r ρ := rfl
theorem sb_bk {ρ : List Sl} {g : List Sl → So} : (So.bk ρ).bind g = .bk ρ := rfl
theorem sb_ct {ρ : List Sl} {g : List Sl → So} : (So.ct ρ).bind g = .ct ρ := rfl
theorem sb_ex {x : Exn} {ρ : List Sl} {g : List Sl → So} : (So.ex x ρ).bind g = .ex x ρ := rfl
theorem sb_no {g : List Sl → So} : So.no.bind g = .no := rfl
theorem oc_ret {r : Rv} {ρ : List Sl} : (FR.ret r).oc ρ = .ok r ρ := rfl
theorem oc_ex {x : Exn} {ρ : List Sl} : (FR.ex x).oc ρ = .ex x ρ := rfl
theorem ocD_ret {r : Rv} {ρ : List Sl} : (FR.ret r).ocD ρ = .ok r.dat ρ := rfl
theorem ocD_ex {x : Exn} {ρ : List Sl} : (FR.ex x).ocD ρ = .ex x ρ := rfl
theorem setSl_pu {i : Nat} {d : Dat} {ρ : List Sl} : setSl i (.pu d) ρ = ρ.set i (.pu d) := rfl
theorem setSl_fr {i : Nat} {ds : List Dat} {ρ : List Sl} : setSl i (.fr ds) ρ = ρ.set i (.ow false ds) := rfl
theorem dat_pu {d : Dat} : (Rv.pu d).dat = d := rfl
theorem dat_fr {ds : List Dat} : (Rv.fr ds).dat = .lst ds := rfl
end
theorem look_cons {k f : Str} {ks : List Str} {d : Dat} {ds : List Dat} : look (k :: ks) (d :: ds) f = if f = k then some d else look ks ds f := by
  unfold look
  rw [List.zip_cons_cons, List.lookup_cons]
  by_cases h : f = k
  · subst h; rw [beq_self_eq_true, if_pos rfl]
  · rw [if_neg h, show (f == k) = false by simpa using h]
section
variable {c : Lk} {ρ : List Sl}
theorem eqO_ii {i j : Int} : eqO c (dI i) (dI j) ρ = .ok (decide (i = j)) ρ := by rw [← int_eq]; rfl
theorem eqO_bb {i j : Bool} : eqO c (dB i) (dB j) ρ = .ok (decide (i = j)) ρ := by
  show Oc.ok (decide (V.bl i = V.bl j)) ρ = _
  cases i <;> cases j <;> rfl
theorem eqO_ss {i j : Str} : eqO c (dS i) (dS j) ρ = .ok (decide (i = j)) ρ := by
  show Oc.ok (decide (V.str i = V.str j)) ρ = _
  by_cases h : i = j
  · subst h; simp
  · rw [decide_eq_false h, decide_eq_false (fun z => h (V.str.inj z))]
theorem eqO_in {i : Int} : eqO c (dI i) dN ρ = .ok false ρ := rfl
theorem eqO_ni {i : Int} : eqO c dN (dI i) ρ = .ok false ρ := rfl
theorem eqO_ins {C : Str} {ks : List Str} {fs : List Dat} {d : Dat} : eqO c (.ins C ks fs) d ρ = if c.hasO C "__eq__" 2 && c.knows d then ((c.call.mt C "__eq__" [.ins C ks fs, d]).ocD ρ).bind fun r ρ' => Oc.of (boolD r) ρ' else .no := rfl
theorem eqO_tup {as bs : List Dat} : eqO c (.tup as) (.tup bs) ρ = if c.rm && (as.length == bs.length && (as.zip bs).all fun p => eqT2 c p.1 p.2) then .ok true ρ else .no := rfl
end
/-! ### loops -/
theorem forGo_nil {tg : Tg} {body : List Sl → So} {ρ : List Sl} : forGo tg body [] ρ = .nx ρ := rfl
theorem forGo_cons {tg : Tg} {body : List Sl → So} {d : Dat} {ds : List Dat} {ρ : List Sl} : forGo tg body (d :: ds) ρ = (match setTg tg d ρ with
    | none => .no
    | some ρ2 => match body ρ2 with
      | .nx ρ3 => forGo tg body ds ρ3
      | .ct ρ3 => forGo tg body ds ρ3
      | .bk ρ3 => .nx ρ3
      | .rt r ρ3 => .rt r ρ3
      | .ex x ρ3 => .ex x ρ3
      | .no => .no) := rfl
/-- a loop whose turns all go on: an invariant -/
theorem forGo_inv {tg : Tg} {body : List Sl → So} (I : Nat → List Sl → Prop) : ∀ (ds : List Dat) (k : Nat) (ρ : List Sl), I k ρ → (∀ (j : Nat) (d : Dat) (ρ : List Sl), ds[j]? = some d → I (k + j) ρ → ∃ ρ2 ρ3, setTg tg d ρ = some ρ2 ∧ (body ρ2 = .nx ρ3 ∨ body ρ2 = .ct ρ3) ∧ I (k + j + 1) ρ3) → ∃ ρ', forGo tg body ds ρ = .nx ρ' ∧ I (k + ds.length) ρ'
  | [], k, ρ, h, _ => ⟨ρ, rfl, h⟩
  | d :: ds, k, ρ, h, st => by
    obtain ⟨ρ2, ρ3, e1, e2, i3⟩ := st 0 d ρ rfl h
    obtain ⟨ρ', e3, i4⟩ := forGo_inv I ds (k + 1) ρ3 (by simpa using i3) fun j d' ρ hj hi => by
      have := st (j + 1) d' ρ hj (by rw [show k + (j + 1) = k + 1 + j by omega]; exact hi)
      rw [show k + (j + 1) + 1 = k + 1 + j + 1 by omega] at this
      exact this
    refine ⟨ρ', ?_, by rw [List.length_cons, show k + (ds.length + 1) = k + 1 + ds.length by omega]; exact i4⟩
    rw [forGo_cons, e1]
    rcases e2 with e2 | e2 <;> simp only [e2] <;> exact e3
/-- a comprehension whose items come one by one -/
theorem compGo_map {tg : Tg} {vs : List Nat} {tst : List Sl → Oc Bool} {elt : List Sl → Oc Dat} (g : Dat → Dat) (ρ : List Sl) : ∀ (ds acc : List Dat), (∀ d ∈ ds, ∃ ρ2 ρ3 ρ4, setTg tg d ρ = some ρ2 ∧ tst ρ2 = .ok true ρ3 ∧ elt ρ3 = .ok (g d) ρ4 ∧ wip ρ4 vs = ρ) → compGo tg vs tst elt ds acc ρ = .ok (acc ++ ds.map g) ρ
  | [], acc, _ => by rw [List.map_nil, List.append_nil]; rfl
  | d :: ds, acc, h => by
    obtain ⟨ρ2, ρ3, ρ4, e1, e2, e3, e4⟩ := h d List.mem_cons_self
    have := compGo_map g ρ ds (acc ++ [g d]) fun d' hd => h d' (List.mem_cons_of_mem _ hd)
    unfold compGo
    simp only [e1, e2, e3, e4]
    rw [this, List.map_cons, List.append_assoc]
    rfl
/-! ### pieces of a body -/
def stAt (b : List Stmt) (i : Nat) : Stmt := b.getD i (.Pass ⟨0, 0, 0, 0⟩)
def lpT : Stmt → Expr
  | .For t _ _ _ _ => t
  | _ => .Constant .none 0 ⟨0, 0, 0, 0⟩
def lpI : Stmt → Expr
  | .For _ e _ _ _ => e
  | _ => .Constant .none 0 ⟨0, 0, 0, 0⟩
def lpB : Stmt → List Stmt
  | .For _ _ b _ _ => b
  | _ => []
def lpP : Stmt → Pos
  | .For _ _ _ _ q => q
  | .If _ _ _ q => q
  | _ => ⟨0, 0, 0, 0⟩
def ifT : Stmt → Expr
  | .If t _ _ _ => t
  | _ => .Constant .none 0 ⟨0, 0, 0, 0⟩
def ifA : Stmt → List Stmt
  | .If _ a _ _ => a
  | _ => []
def ifB : Stmt → List Stmt
  | .If _ _ b _ => b
  | _ => []
end Sf
namespace Sf
open PySem L2
/-! ### more pieces of a body; whiles -/
def whT : Stmt → Expr
  | .While t _ _ _ => t
  | _ => .Constant .none 0 ⟨0, 0, 0, 0⟩
def whB : Stmt → List Stmt
  | .While _ b _ _ => b
  | _ => []
def stP : Stmt → Pos
  | .While _ _ _ q => q
  | .For _ _ _ _ q => q
  | .If _ _ _ q => q
  | _ => ⟨0, 0, 0, 0⟩
theorem evS_while {t : Expr} {b : List Stmt} {p : Pos} {c : SC} {ρ : List Sl} : evS (.While t b [] p) c ρ = whileGo (fun ρ => evT t c ρ (evE t c ρ)) (fun ρ => evSs b c ρ) LF ρ := by rw [evS]
theorem evSs_cons {s : Stmt} {ss : List Stmt} {c : SC} {ρ ρ1 : List Sl} (h : evS s c ρ = .nx ρ1) : evSs (s :: ss) c ρ = evSs ss c ρ1 := by rw [evSs, h]; rfl
theorem evSs_append {c : SC} : ∀ {a b : List Stmt} {ρ : List Sl}, evSs (a ++ b) c ρ = (evSs a c ρ).bind fun ρ1 => evSs b c ρ1
  | [], b, ρ => by simp only [List.nil_append, evSs]; rfl
  | s :: a, b, ρ => by
    simp only [List.cons_append, evSs]
    cases evS s c ρ with
    | nx ρ1 => exact evSs_append
    | _ => rfl
/-- the last one of a list -/
theorem ixN_last (l : Nat) : ixN (l + 1) (-1) = some l := by
  unfold ixN
  simp
  omega
theorem popD_last (l : List Dat) (d : Dat) : popD (l ++ [d]) = some (d, l) := by
  unfold popD
  rw [List.reverse_append]
  simp
theorem ixN_nat {l j : Nat} (h : j < l) : ixN l (j : Int) = some j := by
  unfold ixN
  simp
  omega
theorem compGo_mapF {β : Type} {tg : Tg} {vs : List Nat} {tst : List Sl → Oc Bool} {elt : List Sl → Oc Dat} (a b : β → Dat) (ρ : List Sl) : ∀ (l : List β) (acc : List Dat), (∀ x ∈ l, ∃ ρ2 ρ3 ρ4, setTg tg (a x) ρ = some ρ2 ∧ tst ρ2 = .ok true ρ3 ∧ elt ρ3 = .ok (b x) ρ4 ∧ wip ρ4 vs = ρ) → compGo tg vs tst elt (l.map a) acc ρ = .ok (acc ++ l.map b) ρ
  | [], acc, _ => by rw [List.map_nil, List.map_nil, List.append_nil]; rfl
  | x :: l, acc, h => by
    obtain ⟨ρ2, ρ3, ρ4, e1, e2, e3, e4⟩ := h x List.mem_cons_self
    have := compGo_mapF a b ρ l (acc ++ [b x]) fun y hy => h y (List.mem_cons_of_mem _ hy)
    rw [List.map_cons]
    unfold compGo
    simp only [e1, e2, e3, e4]
    rw [this, List.map_cons, List.append_assoc]
    rfl
theorem compGo_inv {tg : Tg} {vs : List Nat} {tst : List Sl → Oc Bool} {elt : List Sl → Oc Dat} (I : List Dat → List Sl → Prop) : ∀ (ds acc : List Dat) (ρ : List Sl), I acc ρ → (∀ d acc ρ, d ∈ ds → I acc ρ → ∃ ρ2 ρ3 ρ4 y, setTg tg d ρ = some ρ2 ∧ tst ρ2 = .ok true ρ3 ∧ elt ρ3 = .ok y ρ4 ∧ I (acc ++ [y]) (wip ρ4 vs)) →
    ∃ (acc' : List Dat) (ρ' : List Sl), compGo tg vs tst elt ds acc ρ = .ok acc' ρ' ∧ I acc' ρ' ∧ acc'.length = acc.length + ds.length
  | [], acc, ρ, h, _ => ⟨acc, ρ, rfl, h, by simp⟩
  | d :: ds, acc, ρ, h, st => by
    obtain ⟨ρ2, ρ3, ρ4, y, e1, e2, e3, h4⟩ := st d acc ρ List.mem_cons_self h
    obtain ⟨acc', ρ', e, h', hl⟩ := compGo_inv I ds (acc ++ [y]) (wip ρ4 vs) h4 fun d' a' ρ' hd hi => st d' a' ρ' (List.mem_cons_of_mem _ hd) hi
    refine ⟨acc', ρ', ?_, h', by rw [hl, List.length_append, List.length_singleton, List.length_cons]; omega⟩
    unfold compGo
    simp only [e1, e2, e3]
    exact e
end Sf
namespace Pm
open Lean.Grind (CommRing)
section
variable {α : Type} [CommRing α]
/-- the coefficient at j -/
def co (l : List α) (j : Nat) : α := l.getD j 0
def sumN (F : Nat → α) : Nat → α
  | 0 => 0
  | n + 1 => sumN F n + F n
theorem sumN_congr {F G : Nat → α} : ∀ {n : Nat}, (∀ i, i < n → F i = G i) → sumN F n = sumN G n
  | 0, _ => rfl
  | n + 1, h => by
    unfold sumN
    rw [sumN_congr (n := n) fun i hi => h i (by omega), h n (by omega)]
theorem sumN_more {F : Nat → α} {n : Nat} : ∀ {m : Nat}, (∀ i, n ≤ i → F i = 0) → n ≤ m → sumN F m = sumN F n
  | 0, _, h => by
    have : n = 0 := by omega
    subst this; rfl
  | m + 1, z, h => by
    by_cases e : n = m + 1
    · subst e; rfl
    · show sumN F m + F m = sumN F n
      rw [sumN_more (m := m) z (by omega), z m (by omega)]
      grind
theorem sumN_head {F : Nat → α} : ∀ {n : Nat}, sumN F (n + 1) = F 0 + sumN (fun i => F (i + 1)) n
  | 0 => by unfold sumN; unfold sumN; grind
  | n + 1 => by
    rw [show sumN F (n + 1 + 1) = sumN F (n + 1) + F (n + 1) from rfl, sumN_head (n := n), show sumN (fun i => F (i + 1)) (n + 1) = sumN (fun i => F (i + 1)) n + F (n + 1) from rfl]
    grind
theorem sumN_rev {F : Nat → α} : ∀ {n : Nat}, sumN (fun i => F (n - 1 - i)) n = sumN F n
  | 0 => rfl
  | n + 1 => by
    have e : sumN (fun i => F (n + 1 - 1 - (i + 1))) n = sumN F n := (sumN_congr fun i hi => by
      congr 1; omega).trans (sumN_rev (n := n))
    rw [sumN_head, e, show sumN F (n + 1) = sumN F n + F n from rfl, show n + 1 - 1 - 0 = n by omega]
    grind
theorem co_lt {l : List α} {j : Nat} (h : j < l.length) : co l j = l[j] := by
  unfold co; rw [List.getD_eq_getElem?_getD, List.getElem?_eq_getElem h]; rfl
theorem co_ge {l : List α} {j : Nat} (h : l.length ≤ j) : co l j = 0 := by
  unfold co; rw [List.getD_eq_getElem?_getD, List.getElem?_eq_none h]; rfl
theorem co_set {l : List α} {i j : Nat} {x : α} (h : i < l.length) : co (l.set i x) j = if j = i then x else co l j := by
  by_cases e : j = i
  · subst e
    rw [if_pos rfl, co_lt (by simpa using h)]
    simp
  · rw [if_neg e]
    unfold co
    rw [List.getD_eq_getElem?_getD, List.getD_eq_getElem?_getD, List.getElem?_set_ne (by omega)]
theorem co_append {l : List α} {x : α} {j : Nat} : co (l ++ [x]) j = if j = l.length then x else co l j := by
  by_cases e : j = l.length
  · subst e
    rw [if_pos rfl, co_lt (by simp)]
    simp
  · rw [if_neg e]
    by_cases h : j < l.length
    · rw [co_lt h, co_lt (by simp; omega)]
      rw [List.getElem_append_left h]
    · rw [co_ge (by simp; omega), co_ge (by omega)]
theorem co_map {l : List α} {f : α → α} (h0 : f 0 = 0) {j : Nat} : co (l.map f) j = f (co l j) := by
  by_cases h : j < l.length
  · rw [co_lt h, co_lt (by simpa using h), List.getElem_map]
  · rw [co_ge (by simpa using h), co_ge (by omega), h0]
theorem co_range {F : Nat → α} {n j : Nat} : co ((List.range n).map F) j = if j < n then F j else 0 := by
  by_cases h : j < n
  · rw [if_pos h, co_lt (by simpa using h)]
    simp
  · rw [if_neg h, co_ge (by simpa using h)]
theorem list_ext {l m : List α} (hl : l.length = m.length) (h : ∀ j, co l j = co m j) : l = m := by
  apply List.ext_getElem hl
  intro i h1 h2
  have := h i
  rwa [co_lt h1, co_lt h2] at this
/-- g, i places up -/
def sh (g : List α) (i j : Nat) : α := if i ≤ j then co g (j - i) else 0
/-- the product's coefficient at j -/
def conv (f g : List α) (j : Nat) : α := sumN (fun i => co f i * sh g i j) f.length
theorem conv_big {f g : List α} {j n : Nat} (h : f.length ≤ n) : sumN (fun i => co f i * sh g i j) n = conv f g j :=
  sumN_more (fun i hi => by rw [co_ge hi]; grind) h
theorem conv_congr {f f' g g' : List α} (h : ∀ i, co f i = co f' i) (h' : ∀ i, co g i = co g' i) (j : Nat) : conv f g j = conv f' g' j := by
  rw [← conv_big (Nat.le_max_left f.length f'.length), ← conv_big (Nat.le_max_right f.length f'.length)]
  exact sumN_congr fun i hi => by unfold sh; rw [h, h']
theorem conv_end {f g : List α} {j : Nat} (h : f.length + g.length ≤ j + 1) (h2 : 0 < f.length) : conv f g j = 0 := by
  unfold conv
  rw [show (0 : α) = sumN (fun i => co f i * sh g i j) 0 from rfl]
  have : ∀ n, n ≤ f.length → sumN (fun i => co f i * sh g i j) n = 0 := by
    intro n
    induction n with
    | zero => intro _; rfl
    | succ n ih =>
      intro hn
      unfold sumN
      rw [ih (by omega)]
      unfold sh
      rw [co_ge (l := g) (by omega)]
      split <;> grind
  exact this _ (Nat.le_refl _)
variable [DecidableEq α]
/-- zeros at the end left out -/
def trim (l : List α) : List α := (l.reverse.dropWhile (· = 0)).reverse
theorem trim_nil : trim ([] : List α) = [] := rfl
theorem trim_last {l : List α} {x : α} : trim (l ++ [x]) = if x = 0 then trim l else l ++ [x] := by
  unfold trim
  rw [List.reverse_append]
  simp only [List.reverse_cons, List.reverse_nil, List.nil_append, List.singleton_append, List.dropWhile_cons]
  by_cases h : x = 0
  · rw [if_pos h]; simp [h]
  · rw [if_neg h]; simp [h]
theorem rev_ind {P : List α → Prop} (h0 : P []) (h1 : ∀ l x, P l → P (l ++ [x])) : ∀ l, P l := by
  intro l
  have : ∀ m : List α, P m.reverse := by
    intro m
    induction m with
    | nil => exact h0
    | cons x m ih => rw [List.reverse_cons]; exact h1 _ _ ih
  have := this l.reverse
  rwa [List.reverse_reverse] at this
theorem co_trim (l : List α) (j : Nat) : co (trim l) j = co l j := by
  revert j
  refine rev_ind (P := fun l => ∀ j, co (trim l) j = co l j) (fun j => rfl) (fun l x ih j => ?_) l
  rw [trim_last]
  split
  · rename_i h
    rw [ih j, co_append]
    split
    · rename_i e; rw [co_ge (by omega), h]
    · rfl
  · rfl
theorem trim_len (l : List α) : (trim l).length ≤ l.length := by
  refine rev_ind (P := fun l => (trim l).length ≤ l.length) (Nat.le_refl _) (fun l x ih => ?_) l
  rw [trim_last]
  split
  · simp; omega
  · exact Nat.le_refl _
theorem trim_mem {l : List α} {x : α} (h : x ∈ trim l) : x ∈ l := by
  unfold trim at h
  rw [List.mem_reverse] at h
  exact List.mem_reverse.mp ((List.dropWhile_sublist _).mem h)
/-- a row as it is kept: the last one is not 0 -/
def Tr (l : List α) : Prop := ∀ (m : List α) (x : α), l = m ++ [x] → x ≠ 0
theorem tr_trim (l : List α) : Tr (trim l) := by
  refine rev_ind (P := fun l => Tr (trim l)) (fun m x h => ?_) (fun l x ih => ?_) l
  · rw [trim_nil] at h
    have := congrArg List.length h
    simp at this
  · rw [trim_last]
    split
    · exact ih
    · rename_i hx
      intro m y h
      have := (List.append_inj' h rfl).2
      simp at this
      subst this
      exact hx
theorem trim_tr {l : List α} (h : Tr l) : trim l = l := by
  revert h
  refine rev_ind (P := fun l => Tr l → trim l = l) (fun _ => rfl) (fun l x _ h => ?_) l
  rw [trim_last, if_neg (h l x rfl)]
theorem tr_len {l m : List α} (h : Tr l) (e : ∀ j, co l j = co m j) : l.length ≤ m.length := by
  by_cases hl : l.length = 0
  · omega
  · apply Nat.le_of_not_lt
    intro hlt
    have h1 : l = l.dropLast ++ [l[l.length - 1]'(by omega)] := by
      have hne : l ≠ [] := fun z => by rw [z] at hl; exact hl rfl
      have := List.dropLast_concat_getLast hne
      rw [List.getLast_eq_getElem] at this
      exact this.symm
    have h2 := h _ _ h1
    have h3 := e (l.length - 1)
    rw [co_lt (by omega), co_ge (l := m) (by omega)] at h3
    exact h2 h3
theorem tr_ext {l m : List α} (hl : Tr l) (hm : Tr m) (e : ∀ j, co l j = co m j) : l = m :=
  list_ext (Nat.le_antisymm (tr_len hl e) (tr_len hm fun j => (e j).symm)) e
/-! ### division -/
/-- one step's lower part: c times g away, s places up, for the first k of g -/
def sub1 (g : List α) (c : α) (s : Nat) : Nat → List α → List α
  | 0, N => N
  | k + 1, N => (sub1 g c s k N).set (s + k) (co (sub1 g c s k N) (s + k) - c * co g k)
theorem sub1_len (g : List α) (c : α) (s : Nat) : ∀ (k : Nat) (N : List α), (sub1 g c s k N).length = N.length
  | 0, _ => rfl
  | k + 1, N => by unfold sub1; rw [List.length_set, sub1_len g c s k N]
theorem sub1_co (g : List α) (c : α) (s : Nat) : ∀ (k : Nat) (N : List α) (j : Nat), s + k ≤ N.length → co (sub1 g c s k N) j = co N j - (if s ≤ j ∧ j < s + k then c * co g (j - s) else 0)
  | 0, N, j, _ => by unfold sub1; rw [if_neg (by omega)]; grind
  | k + 1, N, j, h => by
    unfold sub1
    rw [co_set (by rw [sub1_len]; omega), sub1_co g c s k N (s + k) (by omega), sub1_co g c s k N j (by omega)]
    by_cases e : j = s + k
    · subst e
      rw [if_pos rfl, if_neg (by omega), if_pos (by omega), show s + k - s = k by omega]
      grind
    · rw [if_neg e]
      by_cases e2 : s ≤ j ∧ j < s + k
      · rw [if_pos e2, if_pos (by omega)]
      · rw [if_neg e2, if_neg (by omega)]
/-- numbers and quotient (in the order that they are found), while numbers are more than d -/
def divGo (g : List α) (fac : α) (d : Nat) : Nat → List α × List α → List α × List α
  | 0, p => p
  | n + 1, (N, Q) => if d < N.length then
      (let M := N.dropLast
       let c := co N (N.length - 1) * fac
       divGo g fac d n (sub1 g c (M.length - d) d M, Q ++ [c]))
    else (N, Q)
/-- what a step keeps: f is what is left and the multiples of g that went -/
structure DInv (f g : List α) (d : Nat) (N Q : List α) : Prop where
  len : N.length + Q.length = f.length
  eq : ∀ j, co f j = co N j + sumN (fun s => co Q s * sh g (f.length - 1 - s - d) j) Q.length
theorem dinv_step {f g : List α} {fac : α} {d : Nat} {N Q : List α} (hg : g.length = d + 1) (hf : co g d * fac = 1) (I : DInv f g d N Q) (h : d < N.length) :
    DInv f g d (sub1 g (co N (N.length - 1) * fac) (N.dropLast.length - d) d N.dropLast) (Q ++ [co N (N.length - 1) * fac]) := by
  have hl := I.len
  have hM : N.dropLast.length = N.length - 1 := by simp
  refine ⟨by rw [sub1_len, hM, List.length_append, List.length_singleton]; omega, fun j => ?_⟩
  rw [sub1_co _ _ _ _ _ _ (by rw [hM]; omega), I.eq j, hM, List.length_append, List.length_singleton, show sumN (fun s => co (Q ++ [co N (N.length - 1) * fac]) s * sh g (f.length - 1 - s - d) j) (Q.length + 1) =
    sumN (fun s => co (Q ++ [co N (N.length - 1) * fac]) s * sh g (f.length - 1 - s - d) j) Q.length + co (Q ++ [co N (N.length - 1) * fac]) Q.length * sh g (f.length - 1 - Q.length - d) j from rfl]
  have e1 : sumN (fun s => co (Q ++ [co N (N.length - 1) * fac]) s * sh g (f.length - 1 - s - d) j) Q.length = sumN (fun s => co Q s * sh g (f.length - 1 - s - d) j) Q.length :=
    sumN_congr fun i hi => by rw [co_append, if_neg (by omega)]
  rw [e1, co_append, if_pos rfl]
  have e2 : f.length - 1 - Q.length - d = N.length - 1 - d := by omega
  rw [e2]
  have e3 : co N.dropLast j = if j < N.length - 1 then co N j else 0 := by
    by_cases hj : j < N.length - 1
    · rw [if_pos hj, co_lt (by rw [hM]; exact hj), co_lt (by omega), List.getElem_dropLast]
    · rw [if_neg hj, co_ge (by rw [hM]; omega)]
  rw [e3]
  unfold sh
  by_cases h1 : N.length - 1 - d ≤ j
  · rw [if_pos h1]
    by_cases h2 : j < N.length - 1
    · rw [if_pos h2, if_pos (by omega)]
      grind
    · rw [if_neg h2, if_neg (by omega)]
      by_cases h3 : j = N.length - 1
      · rw [show j - (N.length - 1 - d) = d by omega, ← h3]
        grind
      · rw [co_ge (l := N) (j := j) (by omega), co_ge (l := g) (j := j - (N.length - 1 - d)) (by omega)]
        grind
  · rw [if_neg h1, if_pos (by omega), if_neg (by omega)]
    grind
theorem divGo_inv {f g : List α} {fac : α} {d : Nat} (hg : g.length = d + 1) (hf : co g d * fac = 1) : ∀ (n : Nat) (N Q : List α), N.length ≤ n → DInv f g d N Q →
    DInv f g d (divGo g fac d n (N, Q)).1 (divGo g fac d n (N, Q)).2 ∧ (divGo g fac d n (N, Q)).1.length ≤ d
  | 0, N, Q, hn, I => ⟨I, by unfold divGo; show N.length ≤ d; omega⟩
  | n + 1, N, Q, hn, I => by
    unfold divGo
    by_cases h : d < N.length
    · rw [if_pos h]
      exact divGo_inv hg hf n _ _ (by rw [sub1_len]; simp; omega) (dinv_step hg hf I h)
    · rw [if_neg h]
      exact ⟨I, by show N.length ≤ d; omega⟩
/-- the quotient's row and the remainder's: what they give -/
theorem div_eq {f g : List α} {d : Nat} {N Q : List α} (I : DInv f g d N Q) (hd : N.length ≤ d) (hQ : Q ≠ [] → N.length = d) (j : Nat) : co f j = conv Q.reverse g j + co N j := by
  have hl := I.len
  rw [I.eq j]
  have e : sumN (fun s => co Q s * sh g (f.length - 1 - s - d) j) Q.length = conv Q.reverse g j := by
    unfold conv
    rw [List.length_reverse, ← sumN_rev]
    refine sumN_congr fun i hi => ?_
    have hne : Q ≠ [] := fun z => by rw [z] at hi; simp at hi
    have := hQ hne
    rw [show f.length - 1 - (Q.length - 1 - i) - d = i by omega]
    congr 1
    rw [co_lt (by omega), co_lt (by simpa using hi), List.getElem_reverse]
  rw [e]
  grind
theorem divGo_len {g : List α} {fac : α} {d : Nat} : ∀ (n : Nat) (N Q : List α), (Q ≠ [] → d ≤ N.length) → (divGo g fac d n (N, Q)).2 ≠ [] → d ≤ (divGo g fac d n (N, Q)).1.length
  | 0, N, Q, h, hq => h hq
  | n + 1, N, Q, h, hq => by
    unfold divGo at hq ⊢
    by_cases hd : d < N.length
    · rw [if_pos hd] at hq ⊢
      exact divGo_len n _ _ (fun _ => by rw [sub1_len]; simp; omega) hq
    · rw [if_neg hd] at hq ⊢
      exact h hq
end
end Pm
namespace Pq
/-- numerator and denominator below 2 ^ s -/
def Sz (s : Nat) (q : Rat) : Prop := q.num.natAbs < 2 ^ s ∧ q.den < 2 ^ s
theorem Sz.mono {s t : Nat} {q : Rat} (h : Sz s q) (l : s ≤ t) : Sz t q :=
  ⟨Nat.lt_of_lt_of_le h.1 (Nat.pow_le_pow_right (by decide) l), Nat.lt_of_lt_of_le h.2 (Nat.pow_le_pow_right (by decide) l)⟩
theorem norm_num {n : Int} {d : Nat} (h : d ≠ 0) : (Rat.normalize n d h).num = n / ((Nat.gcd n.natAbs d : Nat) : Int) := by rw [Rat.normalize_eq]
theorem norm_den {n : Int} {d : Nat} (h : d ≠ 0) : (Rat.normalize n d h).den = d / Nat.gcd n.natAbs d := by rw [Rat.normalize_eq]
theorem den_pos (q : Rat) : 0 < q.den := Nat.pos_of_ne_zero q.den_nz
theorem abs_div_le (n : Int) (g : Nat) : (n / (g : Int)).natAbs ≤ n.natAbs := Int.natAbs_ediv_le_natAbs n g
theorem norm_sz {n : Int} {d s : Nat} (h : d ≠ 0) (h1 : n.natAbs < 2 ^ s) (h2 : d < 2 ^ s) : Sz s (Rat.normalize n d h) :=
  ⟨by rw [norm_num]; exact Nat.lt_of_le_of_lt (abs_div_le _ _) h1, by rw [norm_den]; exact Nat.lt_of_le_of_lt (Nat.div_le_self _ _) h2⟩
theorem mul_lt {a b s t : Nat} (h1 : a < 2 ^ s) (h2 : b < 2 ^ t) : a * b < 2 ^ (s + t) := by
  rw [Nat.pow_add]
  have h0 : 0 < 2 ^ t := Nat.pow_pos (by decide)
  calc a * b ≤ a * 2 ^ t := Nat.mul_le_mul_left _ (by omega)
    _ < 2 ^ s * 2 ^ t := Nat.mul_lt_mul_of_pos_right h1 h0
theorem add_top {x y : Int} {k : Nat} (h1 : x.natAbs < 2 ^ k) (h2 : y.natAbs < 2 ^ k) : (x + y).natAbs < 2 ^ (k + 1) := by
  rw [Nat.pow_succ]; omega
theorem sub_top {x y : Int} {k : Nat} (h1 : x.natAbs < 2 ^ k) (h2 : y.natAbs < 2 ^ k) : (x - y).natAbs < 2 ^ (k + 1) := by
  rw [Nat.pow_succ]; omega
variable {a b : Rat} {s t : Nat}
theorem cross1 (ha : Sz s a) (hb : Sz t b) : (a.num * (b.den : Int)).natAbs < 2 ^ (s + t) := by
  rw [Int.natAbs_mul, Int.natAbs_natCast]; exact mul_lt ha.1 hb.2
theorem cross2 (ha : Sz s a) (hb : Sz t b) : (b.num * (a.den : Int)).natAbs < 2 ^ (s + t) := by
  rw [Int.natAbs_mul, Int.natAbs_natCast, Nat.add_comm]; exact mul_lt hb.1 ha.2
theorem dens (ha : Sz s a) (hb : Sz t b) : a.den * b.den < 2 ^ (s + t) := mul_lt ha.2 hb.2
theorem sz_add (ha : Sz s a) (hb : Sz t b) : Sz (s + t + 1) (a + b) := by
  rw [Rat.add_def]
  exact norm_sz _ (add_top (cross1 ha hb) (cross2 ha hb)) (Nat.lt_of_lt_of_le (dens ha hb) (Nat.pow_le_pow_right (by decide) (by omega)))
theorem sz_sub (ha : Sz s a) (hb : Sz t b) : Sz (s + t + 1) (a - b) := by
  rw [Rat.sub_def]
  exact norm_sz _ (sub_top (cross1 ha hb) (cross2 ha hb)) (Nat.lt_of_lt_of_le (dens ha hb) (Nat.pow_le_pow_right (by decide) (by omega)))
theorem sz_mul (ha : Sz s a) (hb : Sz t b) : Sz (s + t) (a * b) := by
  rw [Rat.mul_def]
  exact norm_sz _ (by rw [Int.natAbs_mul]; exact mul_lt ha.1 hb.1) (dens ha hb)
theorem sz_inv (ha : Sz s a) (h : a ≠ 0) : Sz s a⁻¹ := by
  refine ⟨?_, ?_⟩
  · rw [Rat.num_inv, Int.natAbs_mul, Int.natAbs_natCast]
    have : a.num.sign.natAbs ≤ 1 := by rw [Int.natAbs_sign]; split <;> omega
    calc a.num.sign.natAbs * a.den ≤ 1 * a.den := Nat.mul_le_mul_right _ this
      _ < 2 ^ s := by rw [Nat.one_mul]; exact ha.2
  · rw [Rat.den_inv]
    split
    · rename_i h0; exact absurd (Rat.num_eq_zero.mp h0) h
    · exact ha.1
theorem sz0 : Sz 1 (0 : Rat) := ⟨by decide, by decide⟩
theorem sz1 : Sz 1 (1 : Rat) := ⟨by decide, by decide⟩
theorem sz_int {i : Int} (h : i.natAbs < 2 ^ s) (h1 : 1 ≤ s) : Sz s (i : Rat) := ⟨by rw [Rat.num_intCast]; exact h, by
  rw [Rat.den_intCast]
  calc 1 < 2 ^ 1 := by decide
    _ ≤ 2 ^ s := Nat.pow_le_pow_right (by decide) h1⟩
end Pq
namespace D08
open PySem L2 Sf
theorem sc_powered : FnScope f_powered.N f_powered.ps f_powered.scope := ⟨by decide +kernel, by decide +kernel, by decide +kernel, by decide +kernel, by decide +kernel, by decide +kernel, by decide +kernel⟩
theorem sc_is_integer : FnScope f_is_integer.N f_is_integer.ps f_is_integer.scope := ⟨by decide +kernel, by decide +kernel, by decide +kernel, by decide +kernel, by decide +kernel, by decide +kernel, by decide +kernel⟩
theorem sc_Ratiou_initu : FnScope f_Ratiou_initu.N f_Ratiou_initu.ps f_Ratiou_initu.scope := ⟨by decide +kernel, by decide +kernel, by decide +kernel, by decide +kernel, by decide +kernel, by decide +kernel, by decide +kernel⟩
theorem sc_Ratiou_addu : FnScope f_Ratiou_addu.N f_Ratiou_addu.ps f_Ratiou_addu.scope := ⟨by decide +kernel, by decide +kernel, by decide +kernel, by decide +kernel, by decide +kernel, by decide +kernel, by decide +kernel⟩
theorem sc_Ratiou_subu : FnScope f_Ratiou_subu.N f_Ratiou_subu.ps f_Ratiou_subu.scope := ⟨by decide +kernel, by decide +kernel, by decide +kernel, by decide +kernel, by decide +kernel, by decide +kernel, by decide +kernel⟩
theorem sc_Ratiou_mulu : FnScope f_Ratiou_mulu.N f_Ratiou_mulu.ps f_Ratiou_mulu.scope := ⟨by decide +kernel, by decide +kernel, by decide +kernel, by decide +kernel, by decide +kernel, by decide +kernel, by decide +kernel⟩
theorem sc_Ratiou_equ : FnScope f_Ratiou_equ.N f_Ratiou_equ.ps f_Ratiou_equ.scope := ⟨by decide +kernel, by decide +kernel, by decide +kernel, by decide +kernel, by decide +kernel, by decide +kernel, by decide +kernel⟩
theorem sc_Ratio_is_zero : FnScope f_Ratio_is_zero.N f_Ratio_is_zero.ps f_Ratio_is_zero.scope := ⟨by decide +kernel, by decide +kernel, by decide +kernel, by decide +kernel, by decide +kernel, by decide +kernel, by decide +kernel⟩
theorem sc_Ratio_inverse : FnScope f_Ratio_inverse.N f_Ratio_inverse.ps f_Ratio_inverse.scope := ⟨by decide +kernel, by decide +kernel, by decide +kernel, by decide +kernel, by decide +kernel, by decide +kernel, by decide +kernel⟩
theorem sc__require_ratio : FnScope f__require_ratio.N f__require_ratio.ps f__require_ratio.scope := ⟨by decide +kernel, by decide +kernel, by decide +kernel, by decide +kernel, by decide +kernel, by decide +kernel, by decide +kernel⟩
theorem sc_is_small_prime : FnScope f_is_small_prime.N f_is_small_prime.ps f_is_small_prime.scope := ⟨by decide +kernel, by decide +kernel, by decide +kernel, by decide +kernel, by decide +kernel, by decide +kernel, by decide +kernel⟩
theorem sc_Residueu_initu : FnScope f_Residueu_initu.N f_Residueu_initu.ps f_Residueu_initu.scope := ⟨by decide +kernel, by decide +kernel, by decide +kernel, by decide +kernel, by decide +kernel, by decide +kernel, by decide +kernel⟩
theorem sc_Residueu_addu : FnScope f_Residueu_addu.N f_Residueu_addu.ps f_Residueu_addu.scope := ⟨by decide +kernel, by decide +kernel, by decide +kernel, by decide +kernel, by decide +kernel, by decide +kernel, by decide +kernel⟩
theorem sc_Residueu_subu : FnScope f_Residueu_subu.N f_Residueu_subu.ps f_Residueu_subu.scope := ⟨by decide +kernel, by decide +kernel, by decide +kernel, by decide +kernel, by decide +kernel, by decide +kernel, by decide +kernel⟩
theorem sc_Residueu_mulu : FnScope f_Residueu_mulu.N f_Residueu_mulu.ps f_Residueu_mulu.scope := ⟨by decide +kernel, by decide +kernel, by decide +kernel, by decide +kernel, by decide +kernel, by decide +kernel, by decide +kernel⟩
theorem sc_Residueu_equ : FnScope f_Residueu_equ.N f_Residueu_equ.ps f_Residueu_equ.scope := ⟨by decide +kernel, by decide +kernel, by decide +kernel, by decide +kernel, by decide +kernel, by decide +kernel, by decide +kernel⟩
theorem sc_Residue_is_zero : FnScope f_Residue_is_zero.N f_Residue_is_zero.ps f_Residue_is_zero.scope := ⟨by decide +kernel, by decide +kernel, by decide +kernel, by decide +kernel, by decide +kernel, by decide +kernel, by decide +kernel⟩
theorem sc_Residue_inverse : FnScope f_Residue_inverse.N f_Residue_inverse.ps f_Residue_inverse.scope := ⟨by decide +kernel, by decide +kernel, by decide +kernel, by decide +kernel, by decide +kernel, by decide +kernel, by decide +kernel⟩
theorem sc_Residue_power : FnScope f_Residue_power.N f_Residue_power.ps f_Residue_power.scope := ⟨by decide +kernel, by decide +kernel, by decide +kernel, by decide +kernel, by decide +kernel, by decide +kernel, by decide +kernel⟩
theorem sc__require_like : FnScope f__require_like.N f__require_like.ps f__require_like.scope := ⟨by decide +kernel, by decide +kernel, by decide +kernel, by decide +kernel, by decide +kernel, by decide +kernel, by decide +kernel⟩
theorem sc_Groundu_initu : FnScope f_Groundu_initu.N f_Groundu_initu.ps f_Groundu_initu.scope := ⟨by decide +kernel, by decide +kernel, by decide +kernel, by decide +kernel, by decide +kernel, by decide +kernel, by decide +kernel⟩
theorem sc_Groundu_equ : FnScope f_Groundu_equ.N f_Groundu_equ.ps f_Groundu_equ.scope := ⟨by decide +kernel, by decide +kernel, by decide +kernel, by decide +kernel, by decide +kernel, by decide +kernel, by decide +kernel⟩
theorem sc_Ground_number : FnScope f_Ground_number.N f_Ground_number.ps f_Ground_number.scope := ⟨by decide +kernel, by decide +kernel, by decide +kernel, by decide +kernel, by decide +kernel, by decide +kernel, by decide +kernel⟩
theorem sc_Ground_zero : FnScope f_Ground_zero.N f_Ground_zero.ps f_Ground_zero.scope := ⟨by decide +kernel, by decide +kernel, by decide +kernel, by decide +kernel, by decide +kernel, by decide +kernel, by decide +kernel⟩
theorem sc_Ground_one : FnScope f_Ground_one.N f_Ground_one.ps f_Ground_one.scope := ⟨by decide +kernel, by decide +kernel, by decide +kernel, by decide +kernel, by decide +kernel, by decide +kernel, by decide +kernel⟩
theorem sc_Ground_is_member : FnScope f_Ground_is_member.N f_Ground_is_member.ps f_Ground_is_member.scope := ⟨by decide +kernel, by decide +kernel, by decide +kernel, by decide +kernel, by decide +kernel, by decide +kernel, by decide +kernel⟩
theorem sc_taken : FnScope f_taken.N f_taken.ps f_taken.scope := ⟨by decide +kernel, by decide +kernel, by decide +kernel, by decide +kernel, by decide +kernel, by decide +kernel, by decide +kernel⟩
theorem sc_Polyu_initu : FnScope f_Polyu_initu.N f_Polyu_initu.ps f_Polyu_initu.scope := ⟨by decide +kernel, by decide +kernel, by decide +kernel, by decide +kernel, by decide +kernel, by decide +kernel, by decide +kernel⟩
theorem sc_Polyu_addu : FnScope f_Polyu_addu.N f_Polyu_addu.ps f_Polyu_addu.scope := ⟨by decide +kernel, by decide +kernel, by decide +kernel, by decide +kernel, by decide +kernel, by decide +kernel, by decide +kernel⟩
theorem sc_Polyu_mulu : FnScope f_Polyu_mulu.N f_Polyu_mulu.ps f_Polyu_mulu.scope := ⟨by decide +kernel, by decide +kernel, by decide +kernel, by decide +kernel, by decide +kernel, by decide +kernel, by decide +kernel⟩
theorem sc_Polyu_floordivu : FnScope f_Polyu_floordivu.N f_Polyu_floordivu.ps f_Polyu_floordivu.scope := ⟨by decide +kernel, by decide +kernel, by decide +kernel, by decide +kernel, by decide +kernel, by decide +kernel, by decide +kernel⟩
theorem sc_Polyu_modu : FnScope f_Polyu_modu.N f_Polyu_modu.ps f_Polyu_modu.scope := ⟨by decide +kernel, by decide +kernel, by decide +kernel, by decide +kernel, by decide +kernel, by decide +kernel, by decide +kernel⟩
theorem sc_Polyu_equ : FnScope f_Polyu_equ.N f_Polyu_equ.ps f_Polyu_equ.scope := ⟨by decide +kernel, by decide +kernel, by decide +kernel, by decide +kernel, by decide +kernel, by decide +kernel, by decide +kernel⟩
theorem sc_Poly_degree : FnScope f_Poly_degree.N f_Poly_degree.ps f_Poly_degree.scope := ⟨by decide +kernel, by decide +kernel, by decide +kernel, by decide +kernel, by decide +kernel, by decide +kernel, by decide +kernel⟩
theorem sc_Poly_is_zero : FnScope f_Poly_is_zero.N f_Poly_is_zero.ps f_Poly_is_zero.scope := ⟨by decide +kernel, by decide +kernel, by decide +kernel, by decide +kernel, by decide +kernel, by decide +kernel, by decide +kernel⟩
theorem sc_Poly_coefficient : FnScope f_Poly_coefficient.N f_Poly_coefficient.ps f_Poly_coefficient.scope := ⟨by decide +kernel, by decide +kernel, by decide +kernel, by decide +kernel, by decide +kernel, by decide +kernel, by decide +kernel⟩
theorem sc_Poly_scaled : FnScope f_Poly_scaled.N f_Poly_scaled.ps f_Poly_scaled.scope := ⟨by decide +kernel, by decide +kernel, by decide +kernel, by decide +kernel, by decide +kernel, by decide +kernel, by decide +kernel⟩
theorem sc_Poly_monic : FnScope f_Poly_monic.N f_Poly_monic.ps f_Poly_monic.scope := ⟨by decide +kernel, by decide +kernel, by decide +kernel, by decide +kernel, by decide +kernel, by decide +kernel, by decide +kernel⟩
theorem sc_require_like : FnScope f_require_like.N f_require_like.ps f_require_like.scope := ⟨by decide +kernel, by decide +kernel, by decide +kernel, by decide +kernel, by decide +kernel, by decide +kernel, by decide +kernel⟩
theorem sc__divided : FnScope f__divided.N f__divided.ps f__divided.scope := ⟨by decide +kernel, by decide +kernel, by decide +kernel, by decide +kernel, by decide +kernel, by decide +kernel, by decide +kernel⟩
theorem sc__law_numbers : FnScope f__law_numbers.N f__law_numbers.ps f__law_numbers.scope := ⟨by decide +kernel, by decide +kernel, by decide +kernel, by decide +kernel, by decide +kernel, by decide +kernel, by decide +kernel⟩
theorem sc__law_next : FnScope f__law_next.N f__law_next.ps f__law_next.scope := ⟨by decide +kernel, by decide +kernel, by decide +kernel, by decide +kernel, by decide +kernel, by decide +kernel, by decide +kernel⟩
theorem sc__law_prime : FnScope f__law_prime.N f__law_prime.ps f__law_prime.scope := ⟨by decide +kernel, by decide +kernel, by decide +kernel, by decide +kernel, by decide +kernel, by decide +kernel, by decide +kernel⟩
theorem sc__law_ground : FnScope f__law_ground.N f__law_ground.ps f__law_ground.scope := ⟨by decide +kernel, by decide +kernel, by decide +kernel, by decide +kernel, by decide +kernel, by decide +kernel, by decide +kernel⟩
theorem sc__law_rest : FnScope f__law_rest.N f__law_rest.ps f__law_rest.scope := ⟨by decide +kernel, by decide +kernel, by decide +kernel, by decide +kernel, by decide +kernel, by decide +kernel, by decide +kernel⟩
theorem sc__law_trim : FnScope f__law_trim.N f__law_trim.ps f__law_trim.scope := ⟨by decide +kernel, by decide +kernel, by decide +kernel, by decide +kernel, by decide +kernel, by decide +kernel, by decide +kernel⟩
theorem sc__law_row : FnScope f__law_row.N f__law_row.ps f__law_row.scope := ⟨by decide +kernel, by decide +kernel, by decide +kernel, by decide +kernel, by decide +kernel, by decide +kernel, by decide +kernel⟩
theorem sc__law_poly : FnScope f__law_poly.N f__law_poly.ps f__law_poly.scope := ⟨by decide +kernel, by decide +kernel, by decide +kernel, by decide +kernel, by decide +kernel, by decide +kernel, by decide +kernel⟩
theorem sc__law_refuses : FnScope f__law_refuses.N f__law_refuses.ps f__law_refuses.scope := ⟨by decide +kernel, by decide +kernel, by decide +kernel, by decide +kernel, by decide +kernel, by decide +kernel, by decide +kernel⟩
theorem sc_law : FnScope f_law.N f_law.ps f_law.scope := ⟨by decide +kernel, by decide +kernel, by decide +kernel, by decide +kernel, by decide +kernel, by decide +kernel, by decide +kernel⟩
section
variable {P : Program} {w : World} {K : PySem.W.Frag} {h : Heap} {mg : Str → Option Value}
theorem dk_powered (cd : He.SaysD [] fn K) : DOk K f_powered (He.ga K "powered") := by
  obtain ⟨fd, F⟩ := cd.defs (d := d_powered) (by simp [fn])
  refine ⟨_, _, _, _, _, fd, F, sc_powered, fun j hj => ?_⟩
  exact ⟨[], FunD.bindsN (ps := f_powered.ps) F fun _ _ _ _ _ _ us hl => match us, hl with | [_, _, _], _ => rfl, by rw [show (f_powered.dfl.drop j) = [] from List.drop_of_length_le (Nat.zero_le _)]; exact .nil⟩
theorem dk_is_integer (cd : He.SaysD [] fn K) : DOk K f_is_integer (He.ga K "is_integer") := by
  obtain ⟨fd, F⟩ := cd.defs (d := d_is_integer) (by simp [fn])
  refine ⟨_, _, _, _, _, fd, F, sc_is_integer, fun j hj => ?_⟩
  exact ⟨[], FunD.bindsN (ps := f_is_integer.ps) F fun _ _ _ _ _ _ us hl => match us, hl with | [_], _ => rfl, by rw [show (f_is_integer.dfl.drop j) = [] from List.drop_of_length_le (Nat.zero_le _)]; exact .nil⟩
theorem dk_Ratiou_initu (cd : He.SaysD [] fn K) : DOk K f_Ratiou_initu (He.ma K (He.ga K "Ratio") "__init__") := by
  obtain ⟨fd, F⟩ := cd.defs (d := d_Ratiou_initu) (by simp [fn])
  refine ⟨_, _, _, _, _, fd, F, sc_Ratiou_initu, fun j hj => ?_⟩
  have hj : j ≤ 1 := hj
  match j, hj with
  | 0, _ => obtain ⟨ds, v, b⟩ := FunD.binds1 (ps := f_Ratiou_initu.ps) F 2 0 (fun z => nomatch z) rfl fun T kV doc pm an cdv ct us its h1 h2 => match us, its, h1, h2 with | [_, _], [_], _, _ => ⟨_, rfl, rfl⟩; exact ⟨ds, b, v⟩
  | 1, _ => obtain ⟨ds, v, b⟩ := FunD.binds1 (ps := f_Ratiou_initu.ps) F 3 1 (fun z => nomatch z) rfl fun T kV doc pm an cdv ct us its h1 h2 => match us, its, h1, h2 with | [_, _, _], [_], _, _ => ⟨_, rfl, rfl⟩; exact ⟨ds, b, v⟩
theorem dk_Ratiou_addu (cd : He.SaysD [] fn K) : DOk K f_Ratiou_addu (He.ma K (He.ga K "Ratio") "__add__") := by
  obtain ⟨fd, F⟩ := cd.defs (d := d_Ratiou_addu) (by simp [fn])
  refine ⟨_, _, _, _, _, fd, F, sc_Ratiou_addu, fun j hj => ?_⟩
  exact ⟨[], FunD.bindsN (ps := f_Ratiou_addu.ps) F fun _ _ _ _ _ _ us hl => match us, hl with | [_, _], _ => rfl, by rw [show (f_Ratiou_addu.dfl.drop j) = [] from List.drop_of_length_le (Nat.zero_le _)]; exact .nil⟩
theorem dk_Ratiou_subu (cd : He.SaysD [] fn K) : DOk K f_Ratiou_subu (He.ma K (He.ga K "Ratio") "__sub__") := by
  obtain ⟨fd, F⟩ := cd.defs (d := d_Ratiou_subu) (by simp [fn])
  refine ⟨_, _, _, _, _, fd, F, sc_Ratiou_subu, fun j hj => ?_⟩
  exact ⟨[], FunD.bindsN (ps := f_Ratiou_subu.ps) F fun _ _ _ _ _ _ us hl => match us, hl with | [_, _], _ => rfl, by rw [show (f_Ratiou_subu.dfl.drop j) = [] from List.drop_of_length_le (Nat.zero_le _)]; exact .nil⟩
theorem dk_Ratiou_mulu (cd : He.SaysD [] fn K) : DOk K f_Ratiou_mulu (He.ma K (He.ga K "Ratio") "__mul__") := by
  obtain ⟨fd, F⟩ := cd.defs (d := d_Ratiou_mulu) (by simp [fn])
  refine ⟨_, _, _, _, _, fd, F, sc_Ratiou_mulu, fun j hj => ?_⟩
  exact ⟨[], FunD.bindsN (ps := f_Ratiou_mulu.ps) F fun _ _ _ _ _ _ us hl => match us, hl with | [_, _], _ => rfl, by rw [show (f_Ratiou_mulu.dfl.drop j) = [] from List.drop_of_length_le (Nat.zero_le _)]; exact .nil⟩
theorem dk_Ratiou_equ (cd : He.SaysD [] fn K) : DOk K f_Ratiou_equ (He.ma K (He.ga K "Ratio") "__eq__") := by
  obtain ⟨fd, F⟩ := cd.defs (d := d_Ratiou_equ) (by simp [fn])
  refine ⟨_, _, _, _, _, fd, F, sc_Ratiou_equ, fun j hj => ?_⟩
  exact ⟨[], FunD.bindsN (ps := f_Ratiou_equ.ps) F fun _ _ _ _ _ _ us hl => match us, hl with | [_, _], _ => rfl, by rw [show (f_Ratiou_equ.dfl.drop j) = [] from List.drop_of_length_le (Nat.zero_le _)]; exact .nil⟩
theorem dk_Ratio_is_zero (cd : He.SaysD [] fn K) : DOk K f_Ratio_is_zero (He.ma K (He.ga K "Ratio") "is_zero") := by
  obtain ⟨fd, F⟩ := cd.defs (d := d_Ratio_is_zero) (by simp [fn])
  refine ⟨_, _, _, _, _, fd, F, sc_Ratio_is_zero, fun j hj => ?_⟩
  exact ⟨[], FunD.bindsN (ps := f_Ratio_is_zero.ps) F fun _ _ _ _ _ _ us hl => match us, hl with | [_], _ => rfl, by rw [show (f_Ratio_is_zero.dfl.drop j) = [] from List.drop_of_length_le (Nat.zero_le _)]; exact .nil⟩
theorem dk_Ratio_inverse (cd : He.SaysD [] fn K) : DOk K f_Ratio_inverse (He.ma K (He.ga K "Ratio") "inverse") := by
  obtain ⟨fd, F⟩ := cd.defs (d := d_Ratio_inverse) (by simp [fn])
  refine ⟨_, _, _, _, _, fd, F, sc_Ratio_inverse, fun j hj => ?_⟩
  exact ⟨[], FunD.bindsN (ps := f_Ratio_inverse.ps) F fun _ _ _ _ _ _ us hl => match us, hl with | [_], _ => rfl, by rw [show (f_Ratio_inverse.dfl.drop j) = [] from List.drop_of_length_le (Nat.zero_le _)]; exact .nil⟩
theorem dk__require_ratio (cd : He.SaysD [] fn K) : DOk K f__require_ratio (He.ga K "_require_ratio") := by
  obtain ⟨fd, F⟩ := cd.defs (d := d__require_ratio) (by simp [fn])
  refine ⟨_, _, _, _, _, fd, F, sc__require_ratio, fun j hj => ?_⟩
  exact ⟨[], FunD.bindsN (ps := f__require_ratio.ps) F fun _ _ _ _ _ _ us hl => match us, hl with | [_], _ => rfl, by rw [show (f__require_ratio.dfl.drop j) = [] from List.drop_of_length_le (Nat.zero_le _)]; exact .nil⟩
theorem dk_is_small_prime (cd : He.SaysD [] fn K) : DOk K f_is_small_prime (He.ga K "is_small_prime") := by
  obtain ⟨fd, F⟩ := cd.defs (d := d_is_small_prime) (by simp [fn])
  refine ⟨_, _, _, _, _, fd, F, sc_is_small_prime, fun j hj => ?_⟩
  exact ⟨[], FunD.bindsN (ps := f_is_small_prime.ps) F fun _ _ _ _ _ _ us hl => match us, hl with | [_], _ => rfl, by rw [show (f_is_small_prime.dfl.drop j) = [] from List.drop_of_length_le (Nat.zero_le _)]; exact .nil⟩
theorem dk_Residueu_initu (cd : He.SaysD [] fn K) : DOk K f_Residueu_initu (He.ma K (He.ga K "Residue") "__init__") := by
  obtain ⟨fd, F⟩ := cd.defs (d := d_Residueu_initu) (by simp [fn])
  refine ⟨_, _, _, _, _, fd, F, sc_Residueu_initu, fun j hj => ?_⟩
  exact ⟨[], FunD.bindsN (ps := f_Residueu_initu.ps) F fun _ _ _ _ _ _ us hl => match us, hl with | [_, _, _], _ => rfl, by rw [show (f_Residueu_initu.dfl.drop j) = [] from List.drop_of_length_le (Nat.zero_le _)]; exact .nil⟩
theorem dk_Residueu_addu (cd : He.SaysD [] fn K) : DOk K f_Residueu_addu (He.ma K (He.ga K "Residue") "__add__") := by
  obtain ⟨fd, F⟩ := cd.defs (d := d_Residueu_addu) (by simp [fn])
  refine ⟨_, _, _, _, _, fd, F, sc_Residueu_addu, fun j hj => ?_⟩
  exact ⟨[], FunD.bindsN (ps := f_Residueu_addu.ps) F fun _ _ _ _ _ _ us hl => match us, hl with | [_, _], _ => rfl, by rw [show (f_Residueu_addu.dfl.drop j) = [] from List.drop_of_length_le (Nat.zero_le _)]; exact .nil⟩
theorem dk_Residueu_subu (cd : He.SaysD [] fn K) : DOk K f_Residueu_subu (He.ma K (He.ga K "Residue") "__sub__") := by
  obtain ⟨fd, F⟩ := cd.defs (d := d_Residueu_subu) (by simp [fn])
  refine ⟨_, _, _, _, _, fd, F, sc_Residueu_subu, fun j hj => ?_⟩
  exact ⟨[], FunD.bindsN (ps := f_Residueu_subu.ps) F fun _ _ _ _ _ _ us hl => match us, hl with | [_, _], _ => rfl, by rw [show (f_Residueu_subu.dfl.drop j) = [] from List.drop_of_length_le (Nat.zero_le _)]; exact .nil⟩
theorem dk_Residueu_mulu (cd : He.SaysD [] fn K) : DOk K f_Residueu_mulu (He.ma K (He.ga K "Residue") "__mul__") := by
  obtain ⟨fd, F⟩ := cd.defs (d := d_Residueu_mulu) (by simp [fn])
  refine ⟨_, _, _, _, _, fd, F, sc_Residueu_mulu, fun j hj => ?_⟩
  exact ⟨[], FunD.bindsN (ps := f_Residueu_mulu.ps) F fun _ _ _ _ _ _ us hl => match us, hl with | [_, _], _ => rfl, by rw [show (f_Residueu_mulu.dfl.drop j) = [] from List.drop_of_length_le (Nat.zero_le _)]; exact .nil⟩
theorem dk_Residueu_equ (cd : He.SaysD [] fn K) : DOk K f_Residueu_equ (He.ma K (He.ga K "Residue") "__eq__") := by
  obtain ⟨fd, F⟩ := cd.defs (d := d_Residueu_equ) (by simp [fn])
  refine ⟨_, _, _, _, _, fd, F, sc_Residueu_equ, fun j hj => ?_⟩
  exact ⟨[], FunD.bindsN (ps := f_Residueu_equ.ps) F fun _ _ _ _ _ _ us hl => match us, hl with | [_, _], _ => rfl, by rw [show (f_Residueu_equ.dfl.drop j) = [] from List.drop_of_length_le (Nat.zero_le _)]; exact .nil⟩
theorem dk_Residue_is_zero (cd : He.SaysD [] fn K) : DOk K f_Residue_is_zero (He.ma K (He.ga K "Residue") "is_zero") := by
  obtain ⟨fd, F⟩ := cd.defs (d := d_Residue_is_zero) (by simp [fn])
  refine ⟨_, _, _, _, _, fd, F, sc_Residue_is_zero, fun j hj => ?_⟩
  exact ⟨[], FunD.bindsN (ps := f_Residue_is_zero.ps) F fun _ _ _ _ _ _ us hl => match us, hl with | [_], _ => rfl, by rw [show (f_Residue_is_zero.dfl.drop j) = [] from List.drop_of_length_le (Nat.zero_le _)]; exact .nil⟩
theorem dk_Residue_inverse (cd : He.SaysD [] fn K) : DOk K f_Residue_inverse (He.ma K (He.ga K "Residue") "inverse") := by
  obtain ⟨fd, F⟩ := cd.defs (d := d_Residue_inverse) (by simp [fn])
  refine ⟨_, _, _, _, _, fd, F, sc_Residue_inverse, fun j hj => ?_⟩
  exact ⟨[], FunD.bindsN (ps := f_Residue_inverse.ps) F fun _ _ _ _ _ _ us hl => match us, hl with | [_], _ => rfl, by rw [show (f_Residue_inverse.dfl.drop j) = [] from List.drop_of_length_le (Nat.zero_le _)]; exact .nil⟩
theorem dk_Residue_power (cd : He.SaysD [] fn K) : DOk K f_Residue_power (He.ma K (He.ga K "Residue") "power") := by
  obtain ⟨fd, F⟩ := cd.defs (d := d_Residue_power) (by simp [fn])
  refine ⟨_, _, _, _, _, fd, F, sc_Residue_power, fun j hj => ?_⟩
  exact ⟨[], FunD.bindsN (ps := f_Residue_power.ps) F fun _ _ _ _ _ _ us hl => match us, hl with | [_, _], _ => rfl, by rw [show (f_Residue_power.dfl.drop j) = [] from List.drop_of_length_le (Nat.zero_le _)]; exact .nil⟩
theorem dk__require_like (cd : He.SaysD [] fn K) : DOk K f__require_like (He.ga K "_require_like") := by
  obtain ⟨fd, F⟩ := cd.defs (d := d__require_like) (by simp [fn])
  refine ⟨_, _, _, _, _, fd, F, sc__require_like, fun j hj => ?_⟩
  exact ⟨[], FunD.bindsN (ps := f__require_like.ps) F fun _ _ _ _ _ _ us hl => match us, hl with | [_, _], _ => rfl, by rw [show (f__require_like.dfl.drop j) = [] from List.drop_of_length_le (Nat.zero_le _)]; exact .nil⟩
theorem dk_Groundu_initu (cd : He.SaysD [] fn K) : DOk K f_Groundu_initu (He.ma K (He.ga K "Ground") "__init__") := by
  obtain ⟨fd, F⟩ := cd.defs (d := d_Groundu_initu) (by simp [fn])
  refine ⟨_, _, _, _, _, fd, F, sc_Groundu_initu, fun j hj => ?_⟩
  have hj : j ≤ 1 := hj
  match j, hj with
  | 0, _ => obtain ⟨ds, v, b⟩ := FunD.binds1 (ps := f_Groundu_initu.ps) F 1 0 (fun z => nomatch z) rfl fun T kV doc pm an cdv ct us its h1 h2 => match us, its, h1, h2 with | [_], [_], _, _ => ⟨_, rfl, rfl⟩; exact ⟨ds, b, v⟩
  | 1, _ => obtain ⟨ds, v, b⟩ := FunD.binds1 (ps := f_Groundu_initu.ps) F 2 1 (fun z => nomatch z) rfl fun T kV doc pm an cdv ct us its h1 h2 => match us, its, h1, h2 with | [_, _], [_], _, _ => ⟨_, rfl, rfl⟩; exact ⟨ds, b, v⟩
theorem dk_Groundu_equ (cd : He.SaysD [] fn K) : DOk K f_Groundu_equ (He.ma K (He.ga K "Ground") "__eq__") := by
  obtain ⟨fd, F⟩ := cd.defs (d := d_Groundu_equ) (by simp [fn])
  refine ⟨_, _, _, _, _, fd, F, sc_Groundu_equ, fun j hj => ?_⟩
  exact ⟨[], FunD.bindsN (ps := f_Groundu_equ.ps) F fun _ _ _ _ _ _ us hl => match us, hl with | [_, _], _ => rfl, by rw [show (f_Groundu_equ.dfl.drop j) = [] from List.drop_of_length_le (Nat.zero_le _)]; exact .nil⟩
theorem dk_Ground_number (cd : He.SaysD [] fn K) : DOk K f_Ground_number (He.ma K (He.ga K "Ground") "number") := by
  obtain ⟨fd, F⟩ := cd.defs (d := d_Ground_number) (by simp [fn])
  refine ⟨_, _, _, _, _, fd, F, sc_Ground_number, fun j hj => ?_⟩
  have hj : j ≤ 1 := hj
  match j, hj with
  | 0, _ => obtain ⟨ds, v, b⟩ := FunD.binds1 (ps := f_Ground_number.ps) F 2 0 (fun z => nomatch z) rfl fun T kV doc pm an cdv ct us its h1 h2 => match us, its, h1, h2 with | [_, _], [_], _, _ => ⟨_, rfl, rfl⟩; exact ⟨ds, b, v⟩
  | 1, _ => obtain ⟨ds, v, b⟩ := FunD.binds1 (ps := f_Ground_number.ps) F 3 1 (fun z => nomatch z) rfl fun T kV doc pm an cdv ct us its h1 h2 => match us, its, h1, h2 with | [_, _, _], [_], _, _ => ⟨_, rfl, rfl⟩; exact ⟨ds, b, v⟩
theorem dk_Ground_zero (cd : He.SaysD [] fn K) : DOk K f_Ground_zero (He.ma K (He.ga K "Ground") "zero") := by
  obtain ⟨fd, F⟩ := cd.defs (d := d_Ground_zero) (by simp [fn])
  refine ⟨_, _, _, _, _, fd, F, sc_Ground_zero, fun j hj => ?_⟩
  exact ⟨[], FunD.bindsN (ps := f_Ground_zero.ps) F fun _ _ _ _ _ _ us hl => match us, hl with | [_], _ => rfl, by rw [show (f_Ground_zero.dfl.drop j) = [] from List.drop_of_length_le (Nat.zero_le _)]; exact .nil⟩
theorem dk_Ground_one (cd : He.SaysD [] fn K) : DOk K f_Ground_one (He.ma K (He.ga K "Ground") "one") := by
  obtain ⟨fd, F⟩ := cd.defs (d := d_Ground_one) (by simp [fn])
  refine ⟨_, _, _, _, _, fd, F, sc_Ground_one, fun j hj => ?_⟩
  exact ⟨[], FunD.bindsN (ps := f_Ground_one.ps) F fun _ _ _ _ _ _ us hl => match us, hl with | [_], _ => rfl, by rw [show (f_Ground_one.dfl.drop j) = [] from List.drop_of_length_le (Nat.zero_le _)]; exact .nil⟩
theorem dk_Ground_is_member (cd : He.SaysD [] fn K) : DOk K f_Ground_is_member (He.ma K (He.ga K "Ground") "is_member") := by
  obtain ⟨fd, F⟩ := cd.defs (d := d_Ground_is_member) (by simp [fn])
  refine ⟨_, _, _, _, _, fd, F, sc_Ground_is_member, fun j hj => ?_⟩
  exact ⟨[], FunD.bindsN (ps := f_Ground_is_member.ps) F fun _ _ _ _ _ _ us hl => match us, hl with | [_, _], _ => rfl, by rw [show (f_Ground_is_member.dfl.drop j) = [] from List.drop_of_length_le (Nat.zero_le _)]; exact .nil⟩
theorem dk_taken (cd : He.SaysD [] fn K) : DOk K f_taken (He.ga K "taken") := by
  obtain ⟨fd, F⟩ := cd.defs (d := d_taken) (by simp [fn])
  refine ⟨_, _, _, _, _, fd, F, sc_taken, fun j hj => ?_⟩
  exact ⟨[], FunD.bindsN (ps := f_taken.ps) F fun _ _ _ _ _ _ us hl => match us, hl with | [_, _], _ => rfl, by rw [show (f_taken.dfl.drop j) = [] from List.drop_of_length_le (Nat.zero_le _)]; exact .nil⟩
theorem dk_Polyu_initu (cd : He.SaysD [] fn K) : DOk K f_Polyu_initu (He.ma K (He.ga K "Poly") "__init__") := by
  obtain ⟨fd, F⟩ := cd.defs (d := d_Polyu_initu) (by simp [fn])
  refine ⟨_, _, _, _, _, fd, F, sc_Polyu_initu, fun j hj => ?_⟩
  exact ⟨[], FunD.bindsN (ps := f_Polyu_initu.ps) F fun _ _ _ _ _ _ us hl => match us, hl with | [_, _, _], _ => rfl, by rw [show (f_Polyu_initu.dfl.drop j) = [] from List.drop_of_length_le (Nat.zero_le _)]; exact .nil⟩
theorem dk_Polyu_addu (cd : He.SaysD [] fn K) : DOk K f_Polyu_addu (He.ma K (He.ga K "Poly") "__add__") := by
  obtain ⟨fd, F⟩ := cd.defs (d := d_Polyu_addu) (by simp [fn])
  refine ⟨_, _, _, _, _, fd, F, sc_Polyu_addu, fun j hj => ?_⟩
  exact ⟨[], FunD.bindsN (ps := f_Polyu_addu.ps) F fun _ _ _ _ _ _ us hl => match us, hl with | [_, _], _ => rfl, by rw [show (f_Polyu_addu.dfl.drop j) = [] from List.drop_of_length_le (Nat.zero_le _)]; exact .nil⟩
theorem dk_Polyu_mulu (cd : He.SaysD [] fn K) : DOk K f_Polyu_mulu (He.ma K (He.ga K "Poly") "__mul__") := by
  obtain ⟨fd, F⟩ := cd.defs (d := d_Polyu_mulu) (by simp [fn])
  refine ⟨_, _, _, _, _, fd, F, sc_Polyu_mulu, fun j hj => ?_⟩
  exact ⟨[], FunD.bindsN (ps := f_Polyu_mulu.ps) F fun _ _ _ _ _ _ us hl => match us, hl with | [_, _], _ => rfl, by rw [show (f_Polyu_mulu.dfl.drop j) = [] from List.drop_of_length_le (Nat.zero_le _)]; exact .nil⟩
theorem dk_Polyu_floordivu (cd : He.SaysD [] fn K) : DOk K f_Polyu_floordivu (He.ma K (He.ga K "Poly") "__floordiv__") := by
  obtain ⟨fd, F⟩ := cd.defs (d := d_Polyu_floordivu) (by simp [fn])
  refine ⟨_, _, _, _, _, fd, F, sc_Polyu_floordivu, fun j hj => ?_⟩
  exact ⟨[], FunD.bindsN (ps := f_Polyu_floordivu.ps) F fun _ _ _ _ _ _ us hl => match us, hl with | [_, _], _ => rfl, by rw [show (f_Polyu_floordivu.dfl.drop j) = [] from List.drop_of_length_le (Nat.zero_le _)]; exact .nil⟩
theorem dk_Polyu_modu (cd : He.SaysD [] fn K) : DOk K f_Polyu_modu (He.ma K (He.ga K "Poly") "__mod__") := by
  obtain ⟨fd, F⟩ := cd.defs (d := d_Polyu_modu) (by simp [fn])
  refine ⟨_, _, _, _, _, fd, F, sc_Polyu_modu, fun j hj => ?_⟩
  exact ⟨[], FunD.bindsN (ps := f_Polyu_modu.ps) F fun _ _ _ _ _ _ us hl => match us, hl with | [_, _], _ => rfl, by rw [show (f_Polyu_modu.dfl.drop j) = [] from List.drop_of_length_le (Nat.zero_le _)]; exact .nil⟩
theorem dk_Polyu_equ (cd : He.SaysD [] fn K) : DOk K f_Polyu_equ (He.ma K (He.ga K "Poly") "__eq__") := by
  obtain ⟨fd, F⟩ := cd.defs (d := d_Polyu_equ) (by simp [fn])
  refine ⟨_, _, _, _, _, fd, F, sc_Polyu_equ, fun j hj => ?_⟩
  exact ⟨[], FunD.bindsN (ps := f_Polyu_equ.ps) F fun _ _ _ _ _ _ us hl => match us, hl with | [_, _], _ => rfl, by rw [show (f_Polyu_equ.dfl.drop j) = [] from List.drop_of_length_le (Nat.zero_le _)]; exact .nil⟩
theorem dk_Poly_degree (cd : He.SaysD [] fn K) : DOk K f_Poly_degree (He.ma K (He.ga K "Poly") "degree") := by
  obtain ⟨fd, F⟩ := cd.defs (d := d_Poly_degree) (by simp [fn])
  refine ⟨_, _, _, _, _, fd, F, sc_Poly_degree, fun j hj => ?_⟩
  exact ⟨[], FunD.bindsN (ps := f_Poly_degree.ps) F fun _ _ _ _ _ _ us hl => match us, hl with | [_], _ => rfl, by rw [show (f_Poly_degree.dfl.drop j) = [] from List.drop_of_length_le (Nat.zero_le _)]; exact .nil⟩
theorem dk_Poly_is_zero (cd : He.SaysD [] fn K) : DOk K f_Poly_is_zero (He.ma K (He.ga K "Poly") "is_zero") := by
  obtain ⟨fd, F⟩ := cd.defs (d := d_Poly_is_zero) (by simp [fn])
  refine ⟨_, _, _, _, _, fd, F, sc_Poly_is_zero, fun j hj => ?_⟩
  exact ⟨[], FunD.bindsN (ps := f_Poly_is_zero.ps) F fun _ _ _ _ _ _ us hl => match us, hl with | [_], _ => rfl, by rw [show (f_Poly_is_zero.dfl.drop j) = [] from List.drop_of_length_le (Nat.zero_le _)]; exact .nil⟩
theorem dk_Poly_coefficient (cd : He.SaysD [] fn K) : DOk K f_Poly_coefficient (He.ma K (He.ga K "Poly") "coefficient") := by
  obtain ⟨fd, F⟩ := cd.defs (d := d_Poly_coefficient) (by simp [fn])
  refine ⟨_, _, _, _, _, fd, F, sc_Poly_coefficient, fun j hj => ?_⟩
  exact ⟨[], FunD.bindsN (ps := f_Poly_coefficient.ps) F fun _ _ _ _ _ _ us hl => match us, hl with | [_, _], _ => rfl, by rw [show (f_Poly_coefficient.dfl.drop j) = [] from List.drop_of_length_le (Nat.zero_le _)]; exact .nil⟩
theorem dk_Poly_scaled (cd : He.SaysD [] fn K) : DOk K f_Poly_scaled (He.ma K (He.ga K "Poly") "scaled") := by
  obtain ⟨fd, F⟩ := cd.defs (d := d_Poly_scaled) (by simp [fn])
  refine ⟨_, _, _, _, _, fd, F, sc_Poly_scaled, fun j hj => ?_⟩
  exact ⟨[], FunD.bindsN (ps := f_Poly_scaled.ps) F fun _ _ _ _ _ _ us hl => match us, hl with | [_, _], _ => rfl, by rw [show (f_Poly_scaled.dfl.drop j) = [] from List.drop_of_length_le (Nat.zero_le _)]; exact .nil⟩
theorem dk_Poly_monic (cd : He.SaysD [] fn K) : DOk K f_Poly_monic (He.ma K (He.ga K "Poly") "monic") := by
  obtain ⟨fd, F⟩ := cd.defs (d := d_Poly_monic) (by simp [fn])
  refine ⟨_, _, _, _, _, fd, F, sc_Poly_monic, fun j hj => ?_⟩
  exact ⟨[], FunD.bindsN (ps := f_Poly_monic.ps) F fun _ _ _ _ _ _ us hl => match us, hl with | [_], _ => rfl, by rw [show (f_Poly_monic.dfl.drop j) = [] from List.drop_of_length_le (Nat.zero_le _)]; exact .nil⟩
theorem dk_require_like (cd : He.SaysD [] fn K) : DOk K f_require_like (He.ga K "require_like") := by
  obtain ⟨fd, F⟩ := cd.defs (d := d_require_like) (by simp [fn])
  refine ⟨_, _, _, _, _, fd, F, sc_require_like, fun j hj => ?_⟩
  exact ⟨[], FunD.bindsN (ps := f_require_like.ps) F fun _ _ _ _ _ _ us hl => match us, hl with | [_, _], _ => rfl, by rw [show (f_require_like.dfl.drop j) = [] from List.drop_of_length_le (Nat.zero_le _)]; exact .nil⟩
theorem dk__divided (cd : He.SaysD [] fn K) : DOk K f__divided (He.ga K "_divided") := by
  obtain ⟨fd, F⟩ := cd.defs (d := d__divided) (by simp [fn])
  refine ⟨_, _, _, _, _, fd, F, sc__divided, fun j hj => ?_⟩
  exact ⟨[], FunD.bindsN (ps := f__divided.ps) F fun _ _ _ _ _ _ us hl => match us, hl with | [_, _], _ => rfl, by rw [show (f__divided.dfl.drop j) = [] from List.drop_of_length_le (Nat.zero_le _)]; exact .nil⟩
theorem dk__law_numbers (cd : He.SaysD [] fn K) : DOk K f__law_numbers (He.ga K "_law_numbers") := by
  obtain ⟨fd, F⟩ := cd.defs (d := d__law_numbers) (by simp [fn])
  refine ⟨_, _, _, _, _, fd, F, sc__law_numbers, fun j hj => ?_⟩
  exact ⟨[], FunD.bindsN (ps := f__law_numbers.ps) F fun _ _ _ _ _ _ us hl => match us, hl with | [_], _ => rfl, by rw [show (f__law_numbers.dfl.drop j) = [] from List.drop_of_length_le (Nat.zero_le _)]; exact .nil⟩
theorem dk__law_next (cd : He.SaysD [] fn K) : DOk K f__law_next (He.ga K "_law_next") := by
  obtain ⟨fd, F⟩ := cd.defs (d := d__law_next) (by simp [fn])
  refine ⟨_, _, _, _, _, fd, F, sc__law_next, fun j hj => ?_⟩
  exact ⟨[], FunD.bindsN (ps := f__law_next.ps) F fun _ _ _ _ _ _ us hl => match us, hl with | [_, _], _ => rfl, by rw [show (f__law_next.dfl.drop j) = [] from List.drop_of_length_le (Nat.zero_le _)]; exact .nil⟩
theorem dk__law_prime (cd : He.SaysD [] fn K) : DOk K f__law_prime (He.ga K "_law_prime") := by
  obtain ⟨fd, F⟩ := cd.defs (d := d__law_prime) (by simp [fn])
  refine ⟨_, _, _, _, _, fd, F, sc__law_prime, fun j hj => ?_⟩
  exact ⟨[], FunD.bindsN (ps := f__law_prime.ps) F fun _ _ _ _ _ _ us hl => match us, hl with | [_], _ => rfl, by rw [show (f__law_prime.dfl.drop j) = [] from List.drop_of_length_le (Nat.zero_le _)]; exact .nil⟩
theorem dk__law_ground (cd : He.SaysD [] fn K) : DOk K f__law_ground (He.ga K "_law_ground") := by
  obtain ⟨fd, F⟩ := cd.defs (d := d__law_ground) (by simp [fn])
  refine ⟨_, _, _, _, _, fd, F, sc__law_ground, fun j hj => ?_⟩
  exact ⟨[], FunD.bindsN (ps := f__law_ground.ps) F fun _ _ _ _ _ _ us hl => match us, hl with | [_], _ => rfl, by rw [show (f__law_ground.dfl.drop j) = [] from List.drop_of_length_le (Nat.zero_le _)]; exact .nil⟩
theorem dk__law_rest (cd : He.SaysD [] fn K) : DOk K f__law_rest (He.ga K "_law_rest") := by
  obtain ⟨fd, F⟩ := cd.defs (d := d__law_rest) (by simp [fn])
  refine ⟨_, _, _, _, _, fd, F, sc__law_rest, fun j hj => ?_⟩
  exact ⟨[], FunD.bindsN (ps := f__law_rest.ps) F fun _ _ _ _ _ _ us hl => match us, hl with | [_, _], _ => rfl, by rw [show (f__law_rest.dfl.drop j) = [] from List.drop_of_length_le (Nat.zero_le _)]; exact .nil⟩
theorem dk__law_trim (cd : He.SaysD [] fn K) : DOk K f__law_trim (He.ga K "_law_trim") := by
  obtain ⟨fd, F⟩ := cd.defs (d := d__law_trim) (by simp [fn])
  refine ⟨_, _, _, _, _, fd, F, sc__law_trim, fun j hj => ?_⟩
  exact ⟨[], FunD.bindsN (ps := f__law_trim.ps) F fun _ _ _ _ _ _ us hl => match us, hl with | [_], _ => rfl, by rw [show (f__law_trim.dfl.drop j) = [] from List.drop_of_length_le (Nat.zero_le _)]; exact .nil⟩
theorem dk__law_row (cd : He.SaysD [] fn K) : DOk K f__law_row (He.ga K "_law_row") := by
  obtain ⟨fd, F⟩ := cd.defs (d := d__law_row) (by simp [fn])
  refine ⟨_, _, _, _, _, fd, F, sc__law_row, fun j hj => ?_⟩
  exact ⟨[], FunD.bindsN (ps := f__law_row.ps) F fun _ _ _ _ _ _ us hl => match us, hl with | [_, _, _], _ => rfl, by rw [show (f__law_row.dfl.drop j) = [] from List.drop_of_length_le (Nat.zero_le _)]; exact .nil⟩
theorem dk__law_poly (cd : He.SaysD [] fn K) : DOk K f__law_poly (He.ga K "_law_poly") := by
  obtain ⟨fd, F⟩ := cd.defs (d := d__law_poly) (by simp [fn])
  refine ⟨_, _, _, _, _, fd, F, sc__law_poly, fun j hj => ?_⟩
  exact ⟨[], FunD.bindsN (ps := f__law_poly.ps) F fun _ _ _ _ _ _ us hl => match us, hl with | [_, _], _ => rfl, by rw [show (f__law_poly.dfl.drop j) = [] from List.drop_of_length_le (Nat.zero_le _)]; exact .nil⟩
theorem dk__law_refuses (cd : He.SaysD [] fn K) : DOk K f__law_refuses (He.ga K "_law_refuses") := by
  obtain ⟨fd, F⟩ := cd.defs (d := d__law_refuses) (by simp [fn])
  refine ⟨_, _, _, _, _, fd, F, sc__law_refuses, fun j hj => ?_⟩
  exact ⟨[], FunD.bindsN (ps := f__law_refuses.ps) F fun _ _ _ _ _ _ us hl => match us, hl with | [_, _], _ => rfl, by rw [show (f__law_refuses.dfl.drop j) = [] from List.drop_of_length_le (Nat.zero_le _)]; exact .nil⟩
theorem dk_law (cd : He.SaysD [] fn K) : DOk K f_law (He.ga K "law") := by
  obtain ⟨fd, F⟩ := cd.defs (d := d_law) (by simp [fn])
  refine ⟨_, _, _, _, _, fd, F, sc_law, fun j hj => ?_⟩
  exact ⟨[], FunD.bindsN (ps := f_law.ps) F fun _ _ _ _ _ _ us hl => match us, hl with | [_], _ => rfl, by rw [show (f_law.dfl.drop j) = [] from List.drop_of_length_le (Nat.zero_le _)]; exact .nil⟩
theorem defs_ok {base : Heap} (cd : He.SaysD [] fn K) (hs : statB K S = true) : DefsOk P w K mg base S := by
  refine ⟨?_, ?_, ?_⟩
  · intro p hp
    simp only [S, fns, List.mem_cons, List.not_mem_nil, or_false] at hp
    rcases hp with rfl | rfl | rfl | rfl | rfl | rfl | rfl | rfl | rfl | rfl | rfl | rfl | rfl | rfl | rfl | rfl | rfl
    · exact ⟨(cd.defs (d := d_powered) (by simp [fn])).elim fun _ F => F.kp, dk_powered cd⟩
    · exact ⟨(cd.defs (d := d_is_integer) (by simp [fn])).elim fun _ F => F.kp, dk_is_integer cd⟩
    · exact ⟨(cd.defs (d := d__require_ratio) (by simp [fn])).elim fun _ F => F.kp, dk__require_ratio cd⟩
    · exact ⟨(cd.defs (d := d_is_small_prime) (by simp [fn])).elim fun _ F => F.kp, dk_is_small_prime cd⟩
    · exact ⟨(cd.defs (d := d__require_like) (by simp [fn])).elim fun _ F => F.kp, dk__require_like cd⟩
    · exact ⟨(cd.defs (d := d_taken) (by simp [fn])).elim fun _ F => F.kp, dk_taken cd⟩
    · exact ⟨(cd.defs (d := d_require_like) (by simp [fn])).elim fun _ F => F.kp, dk_require_like cd⟩
    · exact ⟨(cd.defs (d := d__divided) (by simp [fn])).elim fun _ F => F.kp, dk__divided cd⟩
    · exact ⟨(cd.defs (d := d__law_numbers) (by simp [fn])).elim fun _ F => F.kp, dk__law_numbers cd⟩
    · exact ⟨(cd.defs (d := d__law_next) (by simp [fn])).elim fun _ F => F.kp, dk__law_next cd⟩
    · exact ⟨(cd.defs (d := d__law_prime) (by simp [fn])).elim fun _ F => F.kp, dk__law_prime cd⟩
    · exact ⟨(cd.defs (d := d__law_ground) (by simp [fn])).elim fun _ F => F.kp, dk__law_ground cd⟩
    · exact ⟨(cd.defs (d := d__law_rest) (by simp [fn])).elim fun _ F => F.kp, dk__law_rest cd⟩
    · exact ⟨(cd.defs (d := d__law_trim) (by simp [fn])).elim fun _ F => F.kp, dk__law_trim cd⟩
    · exact ⟨(cd.defs (d := d__law_row) (by simp [fn])).elim fun _ F => F.kp, dk__law_row cd⟩
    · exact ⟨(cd.defs (d := d__law_poly) (by simp [fn])).elim fun _ F => F.kp, dk__law_poly cd⟩
    · exact ⟨(cd.defs (d := d__law_refuses) (by simp [fn])).elim fun _ F => F.kp, dk__law_refuses cd⟩
  · intro p hp
    simp only [S, mts, List.mem_cons, List.not_mem_nil, or_false] at hp
    rcases hp with rfl | rfl | rfl | rfl | rfl | rfl | rfl | rfl | rfl | rfl | rfl | rfl | rfl | rfl | rfl | rfl | rfl | rfl | rfl | rfl | rfl | rfl | rfl | rfl | rfl | rfl | rfl | rfl | rfl | rfl | rfl | rfl
    · exact dk_Ratiou_initu cd
    · exact dk_Ratiou_addu cd
    · exact dk_Ratiou_subu cd
    · exact dk_Ratiou_mulu cd
    · exact dk_Ratiou_equ cd
    · exact dk_Ratio_is_zero cd
    · exact dk_Ratio_inverse cd
    · exact dk_Residueu_initu cd
    · exact dk_Residueu_addu cd
    · exact dk_Residueu_subu cd
    · exact dk_Residueu_mulu cd
    · exact dk_Residueu_equ cd
    · exact dk_Residue_is_zero cd
    · exact dk_Residue_inverse cd
    · exact dk_Residue_power cd
    · exact dk_Groundu_initu cd
    · exact dk_Groundu_equ cd
    · exact dk_Ground_number cd
    · exact dk_Ground_zero cd
    · exact dk_Ground_one cd
    · exact dk_Ground_is_member cd
    · exact dk_Polyu_initu cd
    · exact dk_Polyu_addu cd
    · exact dk_Polyu_mulu cd
    · exact dk_Polyu_floordivu cd
    · exact dk_Polyu_modu cd
    · exact dk_Polyu_equ cd
    · exact dk_Poly_degree cd
    · exact dk_Poly_is_zero cd
    · exact dk_Poly_coefficient cd
    · exact dk_Poly_scaled cd
    · exact dk_Poly_monic cd
  · intro p hp f hf
    simp only [S, List.mem_cons, List.not_mem_nil, or_false] at hp
    rcases hp with rfl | rfl | rfl | rfl | rfl | rfl | rfl | rfl | rfl | rfl | rfl | rfl | rfl | rfl | rfl | rfl | rfl | rfl | rfl | rfl | rfl | rfl | rfl | rfl | rfl | rfl | rfl | rfl | rfl | rfl | rfl | rfl | rfl | rfl | rfl | rfl
    · cases hf
    · cases hf
    · cases hf
    · cases hf
    · cases hf
    · cases hf
    · cases hf
    · cases hf
    · cases hf
    · cases hf
    · cases hf
    · cases hf
    · cases hf
    · cases hf
    · cases hf
    · cases hf
    · cases hf
    · cases hf
    · cases hf
    · cases hf
    · cases hf
    · cases hf
    · cases hf
    · cases hf
    · cases hf
    · cases hf
    · cases hf
    · cases hf
    · cases hf
    · cases hf
    · cases hf
    · cases hf
    · cases hf
    · cases hf
    · cases hf
    · cases hf
end
end D08
namespace D08
open PySem L2 Sf
abbrev cs_Polyu_initu_0 : Scope := { kind := PySem.ScopeKind.function, names := [ (PySem.Str.ofString ".0", PySem.NameKind.local), (PySem.Str.ofString "item", PySem.NameKind.local), (PySem.Str.ofString "taken", PySem.NameKind.globalImplicit), (PySem.Str.ofString "ground", PySem.NameKind.free)], isGenerator := false, isCoroutine := false, more := [] : PySem.Scope }
abbrev cs_Polyu_addu_0 : Scope := { kind := PySem.ScopeKind.function, names := [ (PySem.Str.ofString ".0", PySem.NameKind.local), (PySem.Str.ofString "k", PySem.NameKind.local), (PySem.Str.ofString "other", PySem.NameKind.free), (PySem.Str.ofString "self", PySem.NameKind.free)], isGenerator := false, isCoroutine := false, more := [] : PySem.Scope }
abbrev cs_Polyu_mulu_0 : Scope := { kind := PySem.ScopeKind.function, names := [ (PySem.Str.ofString ".0", PySem.NameKind.local), (PySem.Str.ofString "_", PySem.NameKind.local), (PySem.Str.ofString "zero", PySem.NameKind.free)], isGenerator := false, isCoroutine := false, more := [] : PySem.Scope }
abbrev cs_Poly_scaled_0 : Scope := { kind := PySem.ScopeKind.function, names := [ (PySem.Str.ofString ".0", PySem.NameKind.local), (PySem.Str.ofString "x", PySem.NameKind.local), (PySem.Str.ofString "c", PySem.NameKind.free)], isGenerator := false, isCoroutine := false, more := [] : PySem.Scope }
abbrev cs__law_row_0 : Scope := { kind := PySem.ScopeKind.function, names := [ (PySem.Str.ofString ".0", PySem.NameKind.local), (PySem.Str.ofString "k", PySem.NameKind.local), (PySem.Str.ofString "_law_rest", PySem.NameKind.globalImplicit), (PySem.Str.ofString "_law_next", PySem.NameKind.globalImplicit), (PySem.Str.ofString "numbers", PySem.NameKind.free), (PySem.Str.ofString "p", PySem.NameKind.free)], isGenerator := false, isCoroutine := false, more := [] : PySem.Scope }
abbrev cs__law_poly_0 : Scope := { kind := PySem.ScopeKind.function, names := [ (PySem.Str.ofString ".0", PySem.NameKind.local), (PySem.Str.ofString "c", PySem.NameKind.local), (PySem.Str.ofString "ground", PySem.NameKind.free)], isGenerator := false, isCoroutine := false, more := [] : PySem.Scope }
def T : Tab := tabOf S
section
variable (call : Calls)
@[simp] theorem NL_powered : f_powered.N.length = 4 := rfl
@[simp] theorem sl_powered_one : (T.sc f_powered call).slot "one" = some 2 := by kernel_rfl
@[simp] theorem sl_powered_result : (T.sc f_powered call).slot "result" = some 3 := by kernel_rfl
@[simp] theorem sl_powered_k : (T.sc f_powered call).slot "k" = some 1 := by kernel_rfl
@[simp] theorem sl_powered_base : (T.sc f_powered call).slot "base" = some 0 := by kernel_rfl
@[simp] theorem st_powered_result : (T.sc f_powered call).tslot "result" = some 3 := by kernel_rfl
@[simp] theorem st_powered_k : (T.sc f_powered call).tslot "k" = some 1 := by kernel_rfl
@[simp] theorem st_powered_base : (T.sc f_powered call).tslot "base" = some 0 := by kernel_rfl
@[simp] theorem NL_is_integer : f_is_integer.N.length = 1 := rfl
@[simp] theorem sl_is_integer_isinstance : (T.sc f_is_integer call).slot "isinstance" = none := by kernel_rfl
@[simp] theorem gl_is_integer_isinstance : (T.sc f_is_integer call).glob "isinstance" = .blt := by kernel_rfl
@[simp] theorem sl_is_integer_value : (T.sc f_is_integer call).slot "value" = some 0 := by kernel_rfl
@[simp] theorem sl_is_integer_int : (T.sc f_is_integer call).slot "int" = none := by kernel_rfl
@[simp] theorem gl_is_integer_int : (T.sc f_is_integer call).glob "int" = .blt := by kernel_rfl
@[simp] theorem sl_is_integer_bool : (T.sc f_is_integer call).slot "bool" = none := by kernel_rfl
@[simp] theorem gl_is_integer_bool : (T.sc f_is_integer call).glob "bool" = .blt := by kernel_rfl
@[simp] theorem NL_Ratiou_initu : f_Ratiou_initu.N.length = 4 := rfl
@[simp] theorem sl_Ratiou_initu_d : (T.sc f_Ratiou_initu call).slot "d" = some 2 := by kernel_rfl
@[simp] theorem sl_Ratiou_initu_gcd : (T.sc f_Ratiou_initu call).slot "gcd" = none := by kernel_rfl
@[simp] theorem gl_Ratiou_initu_gcd : (T.sc f_Ratiou_initu call).glob "gcd" = .imp "math.gcd" := by kernel_rfl
@[simp] theorem sl_Ratiou_initu_n : (T.sc f_Ratiou_initu call).slot "n" = some 1 := by kernel_rfl
@[simp] theorem sl_Ratiou_initu_self : (T.sc f_Ratiou_initu call).slot "self" = some 0 := by kernel_rfl
@[simp] theorem sl_Ratiou_initu_common : (T.sc f_Ratiou_initu call).slot "common" = some 3 := by kernel_rfl
@[simp] theorem sl_Ratiou_initu_ZeroDivisor : (T.sc f_Ratiou_initu call).slot "ZeroDivisor" = none := by kernel_rfl
@[simp] theorem gl_Ratiou_initu_ZeroDivisor : (T.sc f_Ratiou_initu call).glob "ZeroDivisor" = .exc := by kernel_rfl
@[simp] theorem st_Ratiou_initu_common : (T.sc f_Ratiou_initu call).tslot "common" = some 3 := by kernel_rfl
@[simp] theorem NL_Ratiou_addu : f_Ratiou_addu.N.length = 2 := rfl
@[simp] theorem sl_Ratiou_addu__require_ratio : (T.sc f_Ratiou_addu call).slot "_require_ratio" = none := by kernel_rfl
@[simp] theorem gl_Ratiou_addu__require_ratio : (T.sc f_Ratiou_addu call).glob "_require_ratio" = .fn := by kernel_rfl
@[simp] theorem sl_Ratiou_addu_other : (T.sc f_Ratiou_addu call).slot "other" = some 1 := by kernel_rfl
@[simp] theorem sl_Ratiou_addu_Ratio : (T.sc f_Ratiou_addu call).slot "Ratio" = none := by kernel_rfl
@[simp] theorem gl_Ratiou_addu_Ratio : (T.sc f_Ratiou_addu call).glob "Ratio" = .cls := by kernel_rfl
@[simp] theorem sl_Ratiou_addu_self : (T.sc f_Ratiou_addu call).slot "self" = some 0 := by kernel_rfl
@[simp] theorem NL_Ratiou_subu : f_Ratiou_subu.N.length = 2 := rfl
@[simp] theorem sl_Ratiou_subu__require_ratio : (T.sc f_Ratiou_subu call).slot "_require_ratio" = none := by kernel_rfl
@[simp] theorem gl_Ratiou_subu__require_ratio : (T.sc f_Ratiou_subu call).glob "_require_ratio" = .fn := by kernel_rfl
@[simp] theorem sl_Ratiou_subu_other : (T.sc f_Ratiou_subu call).slot "other" = some 1 := by kernel_rfl
@[simp] theorem sl_Ratiou_subu_Ratio : (T.sc f_Ratiou_subu call).slot "Ratio" = none := by kernel_rfl
@[simp] theorem gl_Ratiou_subu_Ratio : (T.sc f_Ratiou_subu call).glob "Ratio" = .cls := by kernel_rfl
@[simp] theorem sl_Ratiou_subu_self : (T.sc f_Ratiou_subu call).slot "self" = some 0 := by kernel_rfl
@[simp] theorem NL_Ratiou_mulu : f_Ratiou_mulu.N.length = 2 := rfl
@[simp] theorem sl_Ratiou_mulu__require_ratio : (T.sc f_Ratiou_mulu call).slot "_require_ratio" = none := by kernel_rfl
@[simp] theorem gl_Ratiou_mulu__require_ratio : (T.sc f_Ratiou_mulu call).glob "_require_ratio" = .fn := by kernel_rfl
@[simp] theorem sl_Ratiou_mulu_other : (T.sc f_Ratiou_mulu call).slot "other" = some 1 := by kernel_rfl
@[simp] theorem sl_Ratiou_mulu_Ratio : (T.sc f_Ratiou_mulu call).slot "Ratio" = none := by kernel_rfl
@[simp] theorem gl_Ratiou_mulu_Ratio : (T.sc f_Ratiou_mulu call).glob "Ratio" = .cls := by kernel_rfl
@[simp] theorem sl_Ratiou_mulu_self : (T.sc f_Ratiou_mulu call).slot "self" = some 0 := by kernel_rfl
@[simp] theorem NL_Ratiou_equ : f_Ratiou_equ.N.length = 2 := rfl
@[simp] theorem sl_Ratiou_equ_isinstance : (T.sc f_Ratiou_equ call).slot "isinstance" = none := by kernel_rfl
@[simp] theorem gl_Ratiou_equ_isinstance : (T.sc f_Ratiou_equ call).glob "isinstance" = .blt := by kernel_rfl
@[simp] theorem sl_Ratiou_equ_other : (T.sc f_Ratiou_equ call).slot "other" = some 1 := by kernel_rfl
@[simp] theorem sl_Ratiou_equ_Ratio : (T.sc f_Ratiou_equ call).slot "Ratio" = none := by kernel_rfl
@[simp] theorem gl_Ratiou_equ_Ratio : (T.sc f_Ratiou_equ call).glob "Ratio" = .cls := by kernel_rfl
@[simp] theorem sl_Ratiou_equ_self : (T.sc f_Ratiou_equ call).slot "self" = some 0 := by kernel_rfl
@[simp] theorem NL_Ratio_is_zero : f_Ratio_is_zero.N.length = 1 := rfl
@[simp] theorem sl_Ratio_is_zero_self : (T.sc f_Ratio_is_zero call).slot "self" = some 0 := by kernel_rfl
@[simp] theorem NL_Ratio_inverse : f_Ratio_inverse.N.length = 1 := rfl
@[simp] theorem sl_Ratio_inverse_Ratio : (T.sc f_Ratio_inverse call).slot "Ratio" = none := by kernel_rfl
@[simp] theorem gl_Ratio_inverse_Ratio : (T.sc f_Ratio_inverse call).glob "Ratio" = .cls := by kernel_rfl
@[simp] theorem sl_Ratio_inverse_self : (T.sc f_Ratio_inverse call).slot "self" = some 0 := by kernel_rfl
@[simp] theorem NL__require_ratio : f__require_ratio.N.length = 1 := rfl
@[simp] theorem sl__require_ratio_isinstance : (T.sc f__require_ratio call).slot "isinstance" = none := by kernel_rfl
@[simp] theorem gl__require_ratio_isinstance : (T.sc f__require_ratio call).glob "isinstance" = .blt := by kernel_rfl
@[simp] theorem sl__require_ratio_value : (T.sc f__require_ratio call).slot "value" = some 0 := by kernel_rfl
@[simp] theorem sl__require_ratio_Ratio : (T.sc f__require_ratio call).slot "Ratio" = none := by kernel_rfl
@[simp] theorem gl__require_ratio_Ratio : (T.sc f__require_ratio call).glob "Ratio" = .cls := by kernel_rfl
@[simp] theorem sl__require_ratio_Malformed : (T.sc f__require_ratio call).slot "Malformed" = none := by kernel_rfl
@[simp] theorem gl__require_ratio_Malformed : (T.sc f__require_ratio call).glob "Malformed" = .exc := by kernel_rfl
@[simp] theorem NL_is_small_prime : f_is_small_prime.N.length = 1 := rfl
@[simp] theorem sl_is_small_prime_is_integer : (T.sc f_is_small_prime call).slot "is_integer" = none := by kernel_rfl
@[simp] theorem gl_is_small_prime_is_integer : (T.sc f_is_small_prime call).glob "is_integer" = .fn := by kernel_rfl
@[simp] theorem sl_is_small_prime_value : (T.sc f_is_small_prime call).slot "value" = some 0 := by kernel_rfl
@[simp] theorem sl_is_small_prime__PRIMES : (T.sc f_is_small_prime call).slot "_PRIMES" = none := by kernel_rfl
@[simp] theorem gl_is_small_prime__PRIMES : (T.sc f_is_small_prime call).glob "_PRIMES" = .tupI [2, 3, 5, 7, 11, 13, 17, 19, 23, 29, 31] := by kernel_rfl
@[simp] theorem NL_Residueu_initu : f_Residueu_initu.N.length = 3 := rfl
@[simp] theorem sl_Residueu_initu_p : (T.sc f_Residueu_initu call).slot "p" = some 1 := by kernel_rfl
@[simp] theorem sl_Residueu_initu_self : (T.sc f_Residueu_initu call).slot "self" = some 0 := by kernel_rfl
@[simp] theorem sl_Residueu_initu_n : (T.sc f_Residueu_initu call).slot "n" = some 2 := by kernel_rfl
@[simp] theorem sl_Residueu_initu_is_small_prime : (T.sc f_Residueu_initu call).slot "is_small_prime" = none := by kernel_rfl
@[simp] theorem gl_Residueu_initu_is_small_prime : (T.sc f_Residueu_initu call).glob "is_small_prime" = .fn := by kernel_rfl
@[simp] theorem sl_Residueu_initu_Malformed : (T.sc f_Residueu_initu call).slot "Malformed" = none := by kernel_rfl
@[simp] theorem gl_Residueu_initu_Malformed : (T.sc f_Residueu_initu call).glob "Malformed" = .exc := by kernel_rfl
@[simp] theorem sl_Residueu_initu_is_integer : (T.sc f_Residueu_initu call).slot "is_integer" = none := by kernel_rfl
@[simp] theorem gl_Residueu_initu_is_integer : (T.sc f_Residueu_initu call).glob "is_integer" = .fn := by kernel_rfl
@[simp] theorem NL_Residueu_addu : f_Residueu_addu.N.length = 2 := rfl
@[simp] theorem sl_Residueu_addu__require_like : (T.sc f_Residueu_addu call).slot "_require_like" = none := by kernel_rfl
@[simp] theorem gl_Residueu_addu__require_like : (T.sc f_Residueu_addu call).glob "_require_like" = .fn := by kernel_rfl
@[simp] theorem sl_Residueu_addu_self : (T.sc f_Residueu_addu call).slot "self" = some 0 := by kernel_rfl
@[simp] theorem sl_Residueu_addu_other : (T.sc f_Residueu_addu call).slot "other" = some 1 := by kernel_rfl
@[simp] theorem sl_Residueu_addu_Residue : (T.sc f_Residueu_addu call).slot "Residue" = none := by kernel_rfl
@[simp] theorem gl_Residueu_addu_Residue : (T.sc f_Residueu_addu call).glob "Residue" = .cls := by kernel_rfl
@[simp] theorem NL_Residueu_subu : f_Residueu_subu.N.length = 2 := rfl
@[simp] theorem sl_Residueu_subu__require_like : (T.sc f_Residueu_subu call).slot "_require_like" = none := by kernel_rfl
@[simp] theorem gl_Residueu_subu__require_like : (T.sc f_Residueu_subu call).glob "_require_like" = .fn := by kernel_rfl
@[simp] theorem sl_Residueu_subu_self : (T.sc f_Residueu_subu call).slot "self" = some 0 := by kernel_rfl
@[simp] theorem sl_Residueu_subu_other : (T.sc f_Residueu_subu call).slot "other" = some 1 := by kernel_rfl
@[simp] theorem sl_Residueu_subu_Residue : (T.sc f_Residueu_subu call).slot "Residue" = none := by kernel_rfl
@[simp] theorem gl_Residueu_subu_Residue : (T.sc f_Residueu_subu call).glob "Residue" = .cls := by kernel_rfl
@[simp] theorem NL_Residueu_mulu : f_Residueu_mulu.N.length = 2 := rfl
@[simp] theorem sl_Residueu_mulu__require_like : (T.sc f_Residueu_mulu call).slot "_require_like" = none := by kernel_rfl
@[simp] theorem gl_Residueu_mulu__require_like : (T.sc f_Residueu_mulu call).glob "_require_like" = .fn := by kernel_rfl
@[simp] theorem sl_Residueu_mulu_self : (T.sc f_Residueu_mulu call).slot "self" = some 0 := by kernel_rfl
@[simp] theorem sl_Residueu_mulu_other : (T.sc f_Residueu_mulu call).slot "other" = some 1 := by kernel_rfl
@[simp] theorem sl_Residueu_mulu_Residue : (T.sc f_Residueu_mulu call).slot "Residue" = none := by kernel_rfl
@[simp] theorem gl_Residueu_mulu_Residue : (T.sc f_Residueu_mulu call).glob "Residue" = .cls := by kernel_rfl
@[simp] theorem NL_Residueu_equ : f_Residueu_equ.N.length = 2 := rfl
@[simp] theorem sl_Residueu_equ_isinstance : (T.sc f_Residueu_equ call).slot "isinstance" = none := by kernel_rfl
@[simp] theorem gl_Residueu_equ_isinstance : (T.sc f_Residueu_equ call).glob "isinstance" = .blt := by kernel_rfl
@[simp] theorem sl_Residueu_equ_other : (T.sc f_Residueu_equ call).slot "other" = some 1 := by kernel_rfl
@[simp] theorem sl_Residueu_equ_Residue : (T.sc f_Residueu_equ call).slot "Residue" = none := by kernel_rfl
@[simp] theorem gl_Residueu_equ_Residue : (T.sc f_Residueu_equ call).glob "Residue" = .cls := by kernel_rfl
@[simp] theorem sl_Residueu_equ_self : (T.sc f_Residueu_equ call).slot "self" = some 0 := by kernel_rfl
@[simp] theorem NL_Residue_is_zero : f_Residue_is_zero.N.length = 1 := rfl
@[simp] theorem sl_Residue_is_zero_self : (T.sc f_Residue_is_zero call).slot "self" = some 0 := by kernel_rfl
@[simp] theorem NL_Residue_inverse : f_Residue_inverse.N.length = 1 := rfl
@[simp] theorem sl_Residue_inverse_self : (T.sc f_Residue_inverse call).slot "self" = some 0 := by kernel_rfl
@[simp] theorem sl_Residue_inverse_ZeroDivisor : (T.sc f_Residue_inverse call).slot "ZeroDivisor" = none := by kernel_rfl
@[simp] theorem gl_Residue_inverse_ZeroDivisor : (T.sc f_Residue_inverse call).glob "ZeroDivisor" = .exc := by kernel_rfl
@[simp] theorem NL_Residue_power : f_Residue_power.N.length = 2 := rfl
@[simp] theorem sl_Residue_power_k : (T.sc f_Residue_power call).slot "k" = some 1 := by kernel_rfl
@[simp] theorem sl_Residue_power_powered : (T.sc f_Residue_power call).slot "powered" = none := by kernel_rfl
@[simp] theorem gl_Residue_power_powered : (T.sc f_Residue_power call).glob "powered" = .fn := by kernel_rfl
@[simp] theorem sl_Residue_power_self : (T.sc f_Residue_power call).slot "self" = some 0 := by kernel_rfl
@[simp] theorem sl_Residue_power_Residue : (T.sc f_Residue_power call).slot "Residue" = none := by kernel_rfl
@[simp] theorem gl_Residue_power_Residue : (T.sc f_Residue_power call).glob "Residue" = .cls := by kernel_rfl
@[simp] theorem NL__require_like : f__require_like.N.length = 2 := rfl
@[simp] theorem sl__require_like_Malformed : (T.sc f__require_like call).slot "Malformed" = none := by kernel_rfl
@[simp] theorem gl__require_like_Malformed : (T.sc f__require_like call).glob "Malformed" = .exc := by kernel_rfl
@[simp] theorem sl__require_like_isinstance : (T.sc f__require_like call).slot "isinstance" = none := by kernel_rfl
@[simp] theorem gl__require_like_isinstance : (T.sc f__require_like call).glob "isinstance" = .blt := by kernel_rfl
@[simp] theorem sl__require_like_other : (T.sc f__require_like call).slot "other" = some 1 := by kernel_rfl
@[simp] theorem sl__require_like_Residue : (T.sc f__require_like call).slot "Residue" = none := by kernel_rfl
@[simp] theorem gl__require_like_Residue : (T.sc f__require_like call).glob "Residue" = .cls := by kernel_rfl
@[simp] theorem sl__require_like_one : (T.sc f__require_like call).slot "one" = some 0 := by kernel_rfl
@[simp] theorem NL_Groundu_initu : f_Groundu_initu.N.length = 2 := rfl
@[simp] theorem sl_Groundu_initu_p : (T.sc f_Groundu_initu call).slot "p" = some 1 := by kernel_rfl
@[simp] theorem sl_Groundu_initu_self : (T.sc f_Groundu_initu call).slot "self" = some 0 := by kernel_rfl
@[simp] theorem sl_Groundu_initu_Malformed : (T.sc f_Groundu_initu call).slot "Malformed" = none := by kernel_rfl
@[simp] theorem gl_Groundu_initu_Malformed : (T.sc f_Groundu_initu call).glob "Malformed" = .exc := by kernel_rfl
@[simp] theorem sl_Groundu_initu_is_small_prime : (T.sc f_Groundu_initu call).slot "is_small_prime" = none := by kernel_rfl
@[simp] theorem gl_Groundu_initu_is_small_prime : (T.sc f_Groundu_initu call).glob "is_small_prime" = .fn := by kernel_rfl
@[simp] theorem sl_Groundu_initu_is_integer : (T.sc f_Groundu_initu call).slot "is_integer" = none := by kernel_rfl
@[simp] theorem gl_Groundu_initu_is_integer : (T.sc f_Groundu_initu call).glob "is_integer" = .fn := by kernel_rfl
@[simp] theorem NL_Groundu_equ : f_Groundu_equ.N.length = 2 := rfl
@[simp] theorem sl_Groundu_equ_isinstance : (T.sc f_Groundu_equ call).slot "isinstance" = none := by kernel_rfl
@[simp] theorem gl_Groundu_equ_isinstance : (T.sc f_Groundu_equ call).glob "isinstance" = .blt := by kernel_rfl
@[simp] theorem sl_Groundu_equ_other : (T.sc f_Groundu_equ call).slot "other" = some 1 := by kernel_rfl
@[simp] theorem sl_Groundu_equ_Ground : (T.sc f_Groundu_equ call).slot "Ground" = none := by kernel_rfl
@[simp] theorem gl_Groundu_equ_Ground : (T.sc f_Groundu_equ call).glob "Ground" = .cls := by kernel_rfl
@[simp] theorem sl_Groundu_equ_self : (T.sc f_Groundu_equ call).slot "self" = some 0 := by kernel_rfl
@[simp] theorem NL_Ground_number : f_Ground_number.N.length = 4 := rfl
@[simp] theorem sl_Ground_number_Residue : (T.sc f_Ground_number call).slot "Residue" = none := by kernel_rfl
@[simp] theorem gl_Ground_number_Residue : (T.sc f_Ground_number call).glob "Residue" = .cls := by kernel_rfl
@[simp] theorem sl_Ground_number_n : (T.sc f_Ground_number call).slot "n" = some 1 := by kernel_rfl
@[simp] theorem sl_Ground_number_number : (T.sc f_Ground_number call).slot "number" = some 3 := by kernel_rfl
@[simp] theorem sl_Ground_number_self : (T.sc f_Ground_number call).slot "self" = some 0 := by kernel_rfl
@[simp] theorem sl_Ground_number_Ratio : (T.sc f_Ground_number call).slot "Ratio" = none := by kernel_rfl
@[simp] theorem gl_Ground_number_Ratio : (T.sc f_Ground_number call).glob "Ratio" = .cls := by kernel_rfl
@[simp] theorem sl_Ground_number_d : (T.sc f_Ground_number call).slot "d" = some 2 := by kernel_rfl
@[simp] theorem st_Ground_number_number : (T.sc f_Ground_number call).tslot "number" = some 3 := by kernel_rfl
@[simp] theorem NL_Ground_zero : f_Ground_zero.N.length = 1 := rfl
@[simp] theorem sl_Ground_zero_self : (T.sc f_Ground_zero call).slot "self" = some 0 := by kernel_rfl
@[simp] theorem NL_Ground_one : f_Ground_one.N.length = 1 := rfl
@[simp] theorem sl_Ground_one_self : (T.sc f_Ground_one call).slot "self" = some 0 := by kernel_rfl
@[simp] theorem NL_Ground_is_member : f_Ground_is_member.N.length = 2 := rfl
@[simp] theorem sl_Ground_is_member_self : (T.sc f_Ground_is_member call).slot "self" = some 0 := by kernel_rfl
@[simp] theorem sl_Ground_is_member_isinstance : (T.sc f_Ground_is_member call).slot "isinstance" = none := by kernel_rfl
@[simp] theorem gl_Ground_is_member_isinstance : (T.sc f_Ground_is_member call).glob "isinstance" = .blt := by kernel_rfl
@[simp] theorem sl_Ground_is_member_value : (T.sc f_Ground_is_member call).slot "value" = some 1 := by kernel_rfl
@[simp] theorem sl_Ground_is_member_Ratio : (T.sc f_Ground_is_member call).slot "Ratio" = none := by kernel_rfl
@[simp] theorem gl_Ground_is_member_Ratio : (T.sc f_Ground_is_member call).glob "Ratio" = .cls := by kernel_rfl
@[simp] theorem sl_Ground_is_member_Residue : (T.sc f_Ground_is_member call).slot "Residue" = none := by kernel_rfl
@[simp] theorem gl_Ground_is_member_Residue : (T.sc f_Ground_is_member call).glob "Residue" = .cls := by kernel_rfl
@[simp] theorem NL_taken : f_taken.N.length = 2 := rfl
@[simp] theorem sl_taken_item : (T.sc f_taken call).slot "item" = some 1 := by kernel_rfl
@[simp] theorem sl_taken_is_integer : (T.sc f_taken call).slot "is_integer" = none := by kernel_rfl
@[simp] theorem gl_taken_is_integer : (T.sc f_taken call).glob "is_integer" = .fn := by kernel_rfl
@[simp] theorem sl_taken_Malformed : (T.sc f_taken call).slot "Malformed" = none := by kernel_rfl
@[simp] theorem gl_taken_Malformed : (T.sc f_taken call).glob "Malformed" = .exc := by kernel_rfl
@[simp] theorem sl_taken_ground : (T.sc f_taken call).slot "ground" = some 0 := by kernel_rfl
@[simp] theorem NL_Polyu_initu : f_Polyu_initu.N.length = 5 := rfl
@[simp] theorem bo_Polyu_initu_0 : ownOf f_Polyu_initu.N cs_Polyu_initu_0 = [(("item" : Str), 4)] := by kernel_rfl
@[simp] theorem bk_Polyu_initu_0 : blkC f_Polyu_initu.N (T.sc f_Polyu_initu call).sc cs_Polyu_initu_0 [("item", 4)] = true := by kernel_rfl
@[simp] theorem bl_Polyu_initu_0 : ((T.sc f_Polyu_initu call).blk cs_Polyu_initu_0).toLk = T.lk call := rfl
@[simp] theorem bc_Polyu_initu_0 : ((T.sc f_Polyu_initu call).blk cs_Polyu_initu_0).calm = true := rfl
@[simp] theorem bs_Polyu_initu_0_taken : ((T.sc f_Polyu_initu call).blk cs_Polyu_initu_0).slot "taken" = none := by kernel_rfl
@[simp] theorem bg_Polyu_initu_0_taken : ((T.sc f_Polyu_initu call).blk cs_Polyu_initu_0).glob "taken" = .fn := by kernel_rfl
@[simp] theorem bs_Polyu_initu_0_ground : ((T.sc f_Polyu_initu call).blk cs_Polyu_initu_0).slot "ground" = some 1 := by kernel_rfl
@[simp] theorem bs_Polyu_initu_0_item : ((T.sc f_Polyu_initu call).blk cs_Polyu_initu_0).slot "item" = some 4 := by kernel_rfl
@[simp] theorem bt_Polyu_initu_0_item : ((T.sc f_Polyu_initu call).blk cs_Polyu_initu_0).tslot "item" = some 4 := by kernel_rfl
@[simp] theorem sl_Polyu_initu_ground : (T.sc f_Polyu_initu call).slot "ground" = some 1 := by kernel_rfl
@[simp] theorem sl_Polyu_initu_self : (T.sc f_Polyu_initu call).slot "self" = some 0 := by kernel_rfl
@[simp] theorem sl_Polyu_initu_tuple : (T.sc f_Polyu_initu call).slot "tuple" = none := by kernel_rfl
@[simp] theorem gl_Polyu_initu_tuple : (T.sc f_Polyu_initu call).glob "tuple" = .blt := by kernel_rfl
@[simp] theorem sl_Polyu_initu_numbers : (T.sc f_Polyu_initu call).slot "numbers" = some 3 := by kernel_rfl
@[simp] theorem sl_Polyu_initu_isinstance : (T.sc f_Polyu_initu call).slot "isinstance" = none := by kernel_rfl
@[simp] theorem gl_Polyu_initu_isinstance : (T.sc f_Polyu_initu call).glob "isinstance" = .blt := by kernel_rfl
@[simp] theorem sl_Polyu_initu_row : (T.sc f_Polyu_initu call).slot "row" = some 2 := by kernel_rfl
@[simp] theorem sl_Polyu_initu_Malformed : (T.sc f_Polyu_initu call).slot "Malformed" = none := by kernel_rfl
@[simp] theorem gl_Polyu_initu_Malformed : (T.sc f_Polyu_initu call).glob "Malformed" = .exc := by kernel_rfl
@[simp] theorem sl_Polyu_initu_list : (T.sc f_Polyu_initu call).slot "list" = none := by kernel_rfl
@[simp] theorem gl_Polyu_initu_list : (T.sc f_Polyu_initu call).glob "list" = .blt := by kernel_rfl
@[simp] theorem sl_Polyu_initu_len : (T.sc f_Polyu_initu call).slot "len" = none := by kernel_rfl
@[simp] theorem gl_Polyu_initu_len : (T.sc f_Polyu_initu call).glob "len" = .blt := by kernel_rfl
@[simp] theorem st_Polyu_initu_numbers : (T.sc f_Polyu_initu call).tslot "numbers" = some 3 := by kernel_rfl
@[simp] theorem NL_Polyu_addu : f_Polyu_addu.N.length = 4 := rfl
@[simp] theorem bo_Polyu_addu_0 : ownOf f_Polyu_addu.N cs_Polyu_addu_0 = [(("k" : Str), 3)] := by kernel_rfl
@[simp] theorem bk_Polyu_addu_0 : blkC f_Polyu_addu.N (T.sc f_Polyu_addu call).sc cs_Polyu_addu_0 [("k", 3)] = true := by kernel_rfl
@[simp] theorem bl_Polyu_addu_0 : ((T.sc f_Polyu_addu call).blk cs_Polyu_addu_0).toLk = T.lk call := rfl
@[simp] theorem bc_Polyu_addu_0 : ((T.sc f_Polyu_addu call).blk cs_Polyu_addu_0).calm = true := rfl
@[simp] theorem bs_Polyu_addu_0_k : ((T.sc f_Polyu_addu call).blk cs_Polyu_addu_0).slot "k" = some 3 := by kernel_rfl
@[simp] theorem bs_Polyu_addu_0_self : ((T.sc f_Polyu_addu call).blk cs_Polyu_addu_0).slot "self" = some 0 := by kernel_rfl
@[simp] theorem bs_Polyu_addu_0_other : ((T.sc f_Polyu_addu call).blk cs_Polyu_addu_0).slot "other" = some 1 := by kernel_rfl
@[simp] theorem bt_Polyu_addu_0_k : ((T.sc f_Polyu_addu call).blk cs_Polyu_addu_0).tslot "k" = some 3 := by kernel_rfl
@[simp] theorem sl_Polyu_addu_require_like : (T.sc f_Polyu_addu call).slot "require_like" = none := by kernel_rfl
@[simp] theorem gl_Polyu_addu_require_like : (T.sc f_Polyu_addu call).glob "require_like" = .fn := by kernel_rfl
@[simp] theorem sl_Polyu_addu_self : (T.sc f_Polyu_addu call).slot "self" = some 0 := by kernel_rfl
@[simp] theorem sl_Polyu_addu_other : (T.sc f_Polyu_addu call).slot "other" = some 1 := by kernel_rfl
@[simp] theorem sl_Polyu_addu_max : (T.sc f_Polyu_addu call).slot "max" = none := by kernel_rfl
@[simp] theorem gl_Polyu_addu_max : (T.sc f_Polyu_addu call).glob "max" = .blt := by kernel_rfl
@[simp] theorem sl_Polyu_addu_Poly : (T.sc f_Polyu_addu call).slot "Poly" = none := by kernel_rfl
@[simp] theorem gl_Polyu_addu_Poly : (T.sc f_Polyu_addu call).glob "Poly" = .cls := by kernel_rfl
@[simp] theorem sl_Polyu_addu_len : (T.sc f_Polyu_addu call).slot "len" = none := by kernel_rfl
@[simp] theorem gl_Polyu_addu_len : (T.sc f_Polyu_addu call).glob "len" = .blt := by kernel_rfl
@[simp] theorem sl_Polyu_addu_range : (T.sc f_Polyu_addu call).slot "range" = none := by kernel_rfl
@[simp] theorem gl_Polyu_addu_range : (T.sc f_Polyu_addu call).glob "range" = .blt := by kernel_rfl
@[simp] theorem sl_Polyu_addu_length : (T.sc f_Polyu_addu call).slot "length" = some 2 := by kernel_rfl
@[simp] theorem st_Polyu_addu_length : (T.sc f_Polyu_addu call).tslot "length" = some 2 := by kernel_rfl
@[simp] theorem NL_Polyu_mulu : f_Polyu_mulu.N.length = 9 := rfl
@[simp] theorem bo_Polyu_mulu_0 : ownOf f_Polyu_mulu.N cs_Polyu_mulu_0 = [(("_" : Str), 4)] := by kernel_rfl
@[simp] theorem bk_Polyu_mulu_0 : blkC f_Polyu_mulu.N (T.sc f_Polyu_mulu call).sc cs_Polyu_mulu_0 [("_", 4)] = true := by kernel_rfl
@[simp] theorem bl_Polyu_mulu_0 : ((T.sc f_Polyu_mulu call).blk cs_Polyu_mulu_0).toLk = T.lk call := rfl
@[simp] theorem bc_Polyu_mulu_0 : ((T.sc f_Polyu_mulu call).blk cs_Polyu_mulu_0).calm = true := rfl
@[simp] theorem bs_Polyu_mulu_0_zero : ((T.sc f_Polyu_mulu call).blk cs_Polyu_mulu_0).slot "zero" = some 2 := by kernel_rfl
@[simp] theorem bt_Polyu_mulu_0__ : ((T.sc f_Polyu_mulu call).blk cs_Polyu_mulu_0).tslot "_" = some 4 := by kernel_rfl
@[simp] theorem sl_Polyu_mulu_require_like : (T.sc f_Polyu_mulu call).slot "require_like" = none := by kernel_rfl
@[simp] theorem gl_Polyu_mulu_require_like : (T.sc f_Polyu_mulu call).glob "require_like" = .fn := by kernel_rfl
@[simp] theorem sl_Polyu_mulu_self : (T.sc f_Polyu_mulu call).slot "self" = some 0 := by kernel_rfl
@[simp] theorem sl_Polyu_mulu_other : (T.sc f_Polyu_mulu call).slot "other" = some 1 := by kernel_rfl
@[simp] theorem sl_Polyu_mulu_zero : (T.sc f_Polyu_mulu call).slot "zero" = some 2 := by kernel_rfl
@[simp] theorem sl_Polyu_mulu_enumerate : (T.sc f_Polyu_mulu call).slot "enumerate" = none := by kernel_rfl
@[simp] theorem gl_Polyu_mulu_enumerate : (T.sc f_Polyu_mulu call).glob "enumerate" = .blt := by kernel_rfl
@[simp] theorem sl_Polyu_mulu_Poly : (T.sc f_Polyu_mulu call).slot "Poly" = none := by kernel_rfl
@[simp] theorem gl_Polyu_mulu_Poly : (T.sc f_Polyu_mulu call).glob "Poly" = .cls := by kernel_rfl
@[simp] theorem sl_Polyu_mulu_numbers : (T.sc f_Polyu_mulu call).slot "numbers" = some 3 := by kernel_rfl
@[simp] theorem sl_Polyu_mulu_range : (T.sc f_Polyu_mulu call).slot "range" = none := by kernel_rfl
@[simp] theorem gl_Polyu_mulu_range : (T.sc f_Polyu_mulu call).glob "range" = .blt := by kernel_rfl
@[simp] theorem sl_Polyu_mulu_i : (T.sc f_Polyu_mulu call).slot "i" = some 5 := by kernel_rfl
@[simp] theorem sl_Polyu_mulu_k : (T.sc f_Polyu_mulu call).slot "k" = some 7 := by kernel_rfl
@[simp] theorem sl_Polyu_mulu_x : (T.sc f_Polyu_mulu call).slot "x" = some 6 := by kernel_rfl
@[simp] theorem sl_Polyu_mulu_y : (T.sc f_Polyu_mulu call).slot "y" = some 8 := by kernel_rfl
@[simp] theorem sl_Polyu_mulu_len : (T.sc f_Polyu_mulu call).slot "len" = none := by kernel_rfl
@[simp] theorem gl_Polyu_mulu_len : (T.sc f_Polyu_mulu call).glob "len" = .blt := by kernel_rfl
@[simp] theorem st_Polyu_mulu_zero : (T.sc f_Polyu_mulu call).tslot "zero" = some 2 := by kernel_rfl
@[simp] theorem st_Polyu_mulu_numbers : (T.sc f_Polyu_mulu call).tslot "numbers" = some 3 := by kernel_rfl
@[simp] theorem st_Polyu_mulu_i : (T.sc f_Polyu_mulu call).tslot "i" = some 5 := by kernel_rfl
@[simp] theorem st_Polyu_mulu_x : (T.sc f_Polyu_mulu call).tslot "x" = some 6 := by kernel_rfl
@[simp] theorem st_Polyu_mulu_k : (T.sc f_Polyu_mulu call).tslot "k" = some 7 := by kernel_rfl
@[simp] theorem st_Polyu_mulu_y : (T.sc f_Polyu_mulu call).tslot "y" = some 8 := by kernel_rfl
@[simp] theorem NL_Polyu_floordivu : f_Polyu_floordivu.N.length = 2 := rfl
@[simp] theorem sl_Polyu_floordivu__divided : (T.sc f_Polyu_floordivu call).slot "_divided" = none := by kernel_rfl
@[simp] theorem gl_Polyu_floordivu__divided : (T.sc f_Polyu_floordivu call).glob "_divided" = .fn := by kernel_rfl
@[simp] theorem sl_Polyu_floordivu_self : (T.sc f_Polyu_floordivu call).slot "self" = some 0 := by kernel_rfl
@[simp] theorem sl_Polyu_floordivu_other : (T.sc f_Polyu_floordivu call).slot "other" = some 1 := by kernel_rfl
@[simp] theorem NL_Polyu_modu : f_Polyu_modu.N.length = 2 := rfl
@[simp] theorem sl_Polyu_modu__divided : (T.sc f_Polyu_modu call).slot "_divided" = none := by kernel_rfl
@[simp] theorem gl_Polyu_modu__divided : (T.sc f_Polyu_modu call).glob "_divided" = .fn := by kernel_rfl
@[simp] theorem sl_Polyu_modu_self : (T.sc f_Polyu_modu call).slot "self" = some 0 := by kernel_rfl
@[simp] theorem sl_Polyu_modu_other : (T.sc f_Polyu_modu call).slot "other" = some 1 := by kernel_rfl
@[simp] theorem NL_Polyu_equ : f_Polyu_equ.N.length = 2 := rfl
@[simp] theorem sl_Polyu_equ_isinstance : (T.sc f_Polyu_equ call).slot "isinstance" = none := by kernel_rfl
@[simp] theorem gl_Polyu_equ_isinstance : (T.sc f_Polyu_equ call).glob "isinstance" = .blt := by kernel_rfl
@[simp] theorem sl_Polyu_equ_other : (T.sc f_Polyu_equ call).slot "other" = some 1 := by kernel_rfl
@[simp] theorem sl_Polyu_equ_Poly : (T.sc f_Polyu_equ call).slot "Poly" = none := by kernel_rfl
@[simp] theorem gl_Polyu_equ_Poly : (T.sc f_Polyu_equ call).glob "Poly" = .cls := by kernel_rfl
@[simp] theorem sl_Polyu_equ_self : (T.sc f_Polyu_equ call).slot "self" = some 0 := by kernel_rfl
@[simp] theorem NL_Poly_degree : f_Poly_degree.N.length = 1 := rfl
@[simp] theorem sl_Poly_degree_len : (T.sc f_Poly_degree call).slot "len" = none := by kernel_rfl
@[simp] theorem gl_Poly_degree_len : (T.sc f_Poly_degree call).glob "len" = .blt := by kernel_rfl
@[simp] theorem sl_Poly_degree_self : (T.sc f_Poly_degree call).slot "self" = some 0 := by kernel_rfl
@[simp] theorem NL_Poly_is_zero : f_Poly_is_zero.N.length = 1 := rfl
@[simp] theorem sl_Poly_is_zero_len : (T.sc f_Poly_is_zero call).slot "len" = none := by kernel_rfl
@[simp] theorem gl_Poly_is_zero_len : (T.sc f_Poly_is_zero call).glob "len" = .blt := by kernel_rfl
@[simp] theorem sl_Poly_is_zero_self : (T.sc f_Poly_is_zero call).slot "self" = some 0 := by kernel_rfl
@[simp] theorem NL_Poly_coefficient : f_Poly_coefficient.N.length = 2 := rfl
@[simp] theorem sl_Poly_coefficient_k : (T.sc f_Poly_coefficient call).slot "k" = some 1 := by kernel_rfl
@[simp] theorem sl_Poly_coefficient_len : (T.sc f_Poly_coefficient call).slot "len" = none := by kernel_rfl
@[simp] theorem gl_Poly_coefficient_len : (T.sc f_Poly_coefficient call).glob "len" = .blt := by kernel_rfl
@[simp] theorem sl_Poly_coefficient_self : (T.sc f_Poly_coefficient call).slot "self" = some 0 := by kernel_rfl
@[simp] theorem NL_Poly_scaled : f_Poly_scaled.N.length = 3 := rfl
@[simp] theorem bo_Poly_scaled_0 : ownOf f_Poly_scaled.N cs_Poly_scaled_0 = [(("x" : Str), 2)] := by kernel_rfl
@[simp] theorem bk_Poly_scaled_0 : blkC f_Poly_scaled.N (T.sc f_Poly_scaled call).sc cs_Poly_scaled_0 [("x", 2)] = true := by kernel_rfl
@[simp] theorem bl_Poly_scaled_0 : ((T.sc f_Poly_scaled call).blk cs_Poly_scaled_0).toLk = T.lk call := rfl
@[simp] theorem bc_Poly_scaled_0 : ((T.sc f_Poly_scaled call).blk cs_Poly_scaled_0).calm = true := rfl
@[simp] theorem bs_Poly_scaled_0_x : ((T.sc f_Poly_scaled call).blk cs_Poly_scaled_0).slot "x" = some 2 := by kernel_rfl
@[simp] theorem bs_Poly_scaled_0_c : ((T.sc f_Poly_scaled call).blk cs_Poly_scaled_0).slot "c" = some 1 := by kernel_rfl
@[simp] theorem bt_Poly_scaled_0_x : ((T.sc f_Poly_scaled call).blk cs_Poly_scaled_0).tslot "x" = some 2 := by kernel_rfl
@[simp] theorem sl_Poly_scaled_Poly : (T.sc f_Poly_scaled call).slot "Poly" = none := by kernel_rfl
@[simp] theorem gl_Poly_scaled_Poly : (T.sc f_Poly_scaled call).glob "Poly" = .cls := by kernel_rfl
@[simp] theorem sl_Poly_scaled_self : (T.sc f_Poly_scaled call).slot "self" = some 0 := by kernel_rfl
@[simp] theorem NL_Poly_monic : f_Poly_monic.N.length = 1 := rfl
@[simp] theorem sl_Poly_monic_self : (T.sc f_Poly_monic call).slot "self" = some 0 := by kernel_rfl
@[simp] theorem NL_require_like : f_require_like.N.length = 2 := rfl
@[simp] theorem sl_require_like_Malformed : (T.sc f_require_like call).slot "Malformed" = none := by kernel_rfl
@[simp] theorem gl_require_like_Malformed : (T.sc f_require_like call).glob "Malformed" = .exc := by kernel_rfl
@[simp] theorem sl_require_like_isinstance : (T.sc f_require_like call).slot "isinstance" = none := by kernel_rfl
@[simp] theorem gl_require_like_isinstance : (T.sc f_require_like call).glob "isinstance" = .blt := by kernel_rfl
@[simp] theorem sl_require_like_g : (T.sc f_require_like call).slot "g" = some 1 := by kernel_rfl
@[simp] theorem sl_require_like_Poly : (T.sc f_require_like call).slot "Poly" = none := by kernel_rfl
@[simp] theorem gl_require_like_Poly : (T.sc f_require_like call).glob "Poly" = .cls := by kernel_rfl
@[simp] theorem sl_require_like_f : (T.sc f_require_like call).slot "f" = some 0 := by kernel_rfl
@[simp] theorem NL__divided : f__divided.N.length = 8 := rfl
@[simp] theorem sl__divided_require_like : (T.sc f__divided call).slot "require_like" = none := by kernel_rfl
@[simp] theorem gl__divided_require_like : (T.sc f__divided call).glob "require_like" = .fn := by kernel_rfl
@[simp] theorem sl__divided_f : (T.sc f__divided call).slot "f" = some 0 := by kernel_rfl
@[simp] theorem sl__divided_g : (T.sc f__divided call).slot "g" = some 1 := by kernel_rfl
@[simp] theorem sl__divided_list : (T.sc f__divided call).slot "list" = none := by kernel_rfl
@[simp] theorem gl__divided_list : (T.sc f__divided call).glob "list" = .blt := by kernel_rfl
@[simp] theorem sl__divided_ZeroDivisor : (T.sc f__divided call).slot "ZeroDivisor" = none := by kernel_rfl
@[simp] theorem gl__divided_ZeroDivisor : (T.sc f__divided call).glob "ZeroDivisor" = .exc := by kernel_rfl
@[simp] theorem sl__divided_len : (T.sc f__divided call).slot "len" = none := by kernel_rfl
@[simp] theorem gl__divided_len : (T.sc f__divided call).glob "len" = .blt := by kernel_rfl
@[simp] theorem sl__divided_numbers : (T.sc f__divided call).slot "numbers" = some 3 := by kernel_rfl
@[simp] theorem sl__divided_factor : (T.sc f__divided call).slot "factor" = some 2 := by kernel_rfl
@[simp] theorem sl__divided_range : (T.sc f__divided call).slot "range" = none := by kernel_rfl
@[simp] theorem gl__divided_range : (T.sc f__divided call).glob "range" = .blt := by kernel_rfl
@[simp] theorem sl__divided_c : (T.sc f__divided call).slot "c" = some 5 := by kernel_rfl
@[simp] theorem sl__divided_Poly : (T.sc f__divided call).slot "Poly" = none := by kernel_rfl
@[simp] theorem gl__divided_Poly : (T.sc f__divided call).glob "Poly" = .cls := by kernel_rfl
@[simp] theorem sl__divided_quotient : (T.sc f__divided call).slot "quotient" = some 4 := by kernel_rfl
@[simp] theorem sl__divided_shift : (T.sc f__divided call).slot "shift" = some 6 := by kernel_rfl
@[simp] theorem sl__divided_k : (T.sc f__divided call).slot "k" = some 7 := by kernel_rfl
@[simp] theorem st__divided_factor : (T.sc f__divided call).tslot "factor" = some 2 := by kernel_rfl
@[simp] theorem st__divided_numbers : (T.sc f__divided call).tslot "numbers" = some 3 := by kernel_rfl
@[simp] theorem st__divided_quotient : (T.sc f__divided call).tslot "quotient" = some 4 := by kernel_rfl
@[simp] theorem st__divided_c : (T.sc f__divided call).tslot "c" = some 5 := by kernel_rfl
@[simp] theorem st__divided_shift : (T.sc f__divided call).tslot "shift" = some 6 := by kernel_rfl
@[simp] theorem st__divided_k : (T.sc f__divided call).tslot "k" = some 7 := by kernel_rfl
@[simp] theorem NL__law_numbers : f__law_numbers.N.length = 7 := rfl
@[simp] theorem sl__law_numbers_found : (T.sc f__law_numbers call).slot "found" = some 1 := by kernel_rfl
@[simp] theorem sl__law_numbers_range : (T.sc f__law_numbers call).slot "range" = none := by kernel_rfl
@[simp] theorem gl__law_numbers_range : (T.sc f__law_numbers call).glob "range" = .blt := by kernel_rfl
@[simp] theorem sl__law_numbers_min : (T.sc f__law_numbers call).slot "min" = none := by kernel_rfl
@[simp] theorem gl__law_numbers_min : (T.sc f__law_numbers call).glob "min" = .blt := by kernel_rfl
@[simp] theorem sl__law_numbers_abs : (T.sc f__law_numbers call).slot "abs" = none := by kernel_rfl
@[simp] theorem gl__law_numbers_abs : (T.sc f__law_numbers call).glob "abs" = .blt := by kernel_rfl
@[simp] theorem sl__law_numbers_cell : (T.sc f__law_numbers call).slot "cell" = some 3 := by kernel_rfl
@[simp] theorem sl__law_numbers_len : (T.sc f__law_numbers call).slot "len" = none := by kernel_rfl
@[simp] theorem gl__law_numbers_len : (T.sc f__law_numbers call).glob "len" = .blt := by kernel_rfl
@[simp] theorem sl__law_numbers_script : (T.sc f__law_numbers call).slot "script" = some 0 := by kernel_rfl
@[simp] theorem sl__law_numbers_k : (T.sc f__law_numbers call).slot "k" = some 2 := by kernel_rfl
@[simp] theorem sl__law_numbers_mixed : (T.sc f__law_numbers call).slot "mixed" = some 6 := by kernel_rfl
@[simp] theorem sl__law_numbers_i : (T.sc f__law_numbers call).slot "i" = some 5 := by kernel_rfl
@[simp] theorem st__law_numbers_found : (T.sc f__law_numbers call).tslot "found" = some 1 := by kernel_rfl
@[simp] theorem st__law_numbers_k : (T.sc f__law_numbers call).tslot "k" = some 2 := by kernel_rfl
@[simp] theorem st__law_numbers_cell : (T.sc f__law_numbers call).tslot "cell" = some 3 := by kernel_rfl
@[simp] theorem st__law_numbers_turn : (T.sc f__law_numbers call).tslot "turn" = some 4 := by kernel_rfl
@[simp] theorem st__law_numbers_i : (T.sc f__law_numbers call).tslot "i" = some 5 := by kernel_rfl
@[simp] theorem st__law_numbers_mixed : (T.sc f__law_numbers call).tslot "mixed" = some 6 := by kernel_rfl
@[simp] theorem NL__law_next : f__law_next.N.length = 2 := rfl
@[simp] theorem sl__law_next_many : (T.sc f__law_next call).slot "many" = some 1 := by kernel_rfl
@[simp] theorem sl__law_next_len : (T.sc f__law_next call).slot "len" = none := by kernel_rfl
@[simp] theorem gl__law_next_len : (T.sc f__law_next call).glob "len" = .blt := by kernel_rfl
@[simp] theorem sl__law_next_numbers : (T.sc f__law_next call).slot "numbers" = some 0 := by kernel_rfl
@[simp] theorem NL__law_prime : f__law_prime.N.length = 1 := rfl
@[simp] theorem sl__law_prime__law_next : (T.sc f__law_prime call).slot "_law_next" = none := by kernel_rfl
@[simp] theorem gl__law_prime__law_next : (T.sc f__law_prime call).glob "_law_next" = .fnN := by kernel_rfl
@[simp] theorem sl__law_prime_numbers : (T.sc f__law_prime call).slot "numbers" = some 0 := by kernel_rfl
@[simp] theorem NL__law_ground : f__law_ground.N.length = 1 := rfl
@[simp] theorem sl__law_ground_p : (T.sc f__law_ground call).slot "p" = some 0 := by kernel_rfl
@[simp] theorem sl__law_ground_Ground : (T.sc f__law_ground call).slot "Ground" = none := by kernel_rfl
@[simp] theorem gl__law_ground_Ground : (T.sc f__law_ground call).glob "Ground" = .cls := by kernel_rfl
@[simp] theorem NL__law_rest : f__law_rest.N.length = 2 := rfl
@[simp] theorem sl__law_rest_p : (T.sc f__law_rest call).slot "p" = some 0 := by kernel_rfl
@[simp] theorem sl__law_rest_x : (T.sc f__law_rest call).slot "x" = some 1 := by kernel_rfl
@[simp] theorem NL__law_trim : f__law_trim.N.length = 1 := rfl
@[simp] theorem sl__law_trim_row : (T.sc f__law_trim call).slot "row" = some 0 := by kernel_rfl
@[simp] theorem sl__law_trim_list : (T.sc f__law_trim call).slot "list" = none := by kernel_rfl
@[simp] theorem gl__law_trim_list : (T.sc f__law_trim call).glob "list" = .blt := by kernel_rfl
@[simp] theorem sl__law_trim_len : (T.sc f__law_trim call).slot "len" = none := by kernel_rfl
@[simp] theorem gl__law_trim_len : (T.sc f__law_trim call).glob "len" = .blt := by kernel_rfl
@[simp] theorem st__law_trim_row : (T.sc f__law_trim call).tslot "row" = some 0 := by kernel_rfl
@[simp] theorem NL__law_row : f__law_row.N.length = 4 := rfl
@[simp] theorem bo__law_row_0 : ownOf f__law_row.N cs__law_row_0 = [(("k" : Str), 3)] := by kernel_rfl
@[simp] theorem bk__law_row_0 : blkC f__law_row.N (T.sc f__law_row call).sc cs__law_row_0 [("k", 3)] = true := by kernel_rfl
@[simp] theorem bl__law_row_0 : ((T.sc f__law_row call).blk cs__law_row_0).toLk = T.lk call := rfl
@[simp] theorem bc__law_row_0 : ((T.sc f__law_row call).blk cs__law_row_0).calm = true := rfl
@[simp] theorem bs__law_row_0__law_rest : ((T.sc f__law_row call).blk cs__law_row_0).slot "_law_rest" = none := by kernel_rfl
@[simp] theorem bg__law_row_0__law_rest : ((T.sc f__law_row call).blk cs__law_row_0).glob "_law_rest" = .fn := by kernel_rfl
@[simp] theorem bs__law_row_0_p : ((T.sc f__law_row call).blk cs__law_row_0).slot "p" = some 1 := by kernel_rfl
@[simp] theorem bs__law_row_0__law_next : ((T.sc f__law_row call).blk cs__law_row_0).slot "_law_next" = none := by kernel_rfl
@[simp] theorem bg__law_row_0__law_next : ((T.sc f__law_row call).blk cs__law_row_0).glob "_law_next" = .fnN := by kernel_rfl
@[simp] theorem bs__law_row_0_numbers : ((T.sc f__law_row call).blk cs__law_row_0).slot "numbers" = some 0 := by kernel_rfl
@[simp] theorem bt__law_row_0_k : ((T.sc f__law_row call).blk cs__law_row_0).tslot "k" = some 3 := by kernel_rfl
@[simp] theorem sl__law_row__law_trim : (T.sc f__law_row call).slot "_law_trim" = none := by kernel_rfl
@[simp] theorem gl__law_row__law_trim : (T.sc f__law_row call).glob "_law_trim" = .fn := by kernel_rfl
@[simp] theorem sl__law_row_range : (T.sc f__law_row call).slot "range" = none := by kernel_rfl
@[simp] theorem gl__law_row_range : (T.sc f__law_row call).glob "range" = .blt := by kernel_rfl
@[simp] theorem sl__law_row__law_next : (T.sc f__law_row call).slot "_law_next" = none := by kernel_rfl
@[simp] theorem gl__law_row__law_next : (T.sc f__law_row call).glob "_law_next" = .fnN := by kernel_rfl
@[simp] theorem sl__law_row_numbers : (T.sc f__law_row call).slot "numbers" = some 0 := by kernel_rfl
@[simp] theorem sl__law_row_most : (T.sc f__law_row call).slot "most" = some 2 := by kernel_rfl
@[simp] theorem NL__law_poly : f__law_poly.N.length = 3 := rfl
@[simp] theorem bo__law_poly_0 : ownOf f__law_poly.N cs__law_poly_0 = [(("c" : Str), 2)] := by kernel_rfl
@[simp] theorem bk__law_poly_0 : blkC f__law_poly.N (T.sc f__law_poly call).sc cs__law_poly_0 [("c", 2)] = true := by kernel_rfl
@[simp] theorem bl__law_poly_0 : ((T.sc f__law_poly call).blk cs__law_poly_0).toLk = T.lk call := rfl
@[simp] theorem bc__law_poly_0 : ((T.sc f__law_poly call).blk cs__law_poly_0).calm = true := rfl
@[simp] theorem bs__law_poly_0_c : ((T.sc f__law_poly call).blk cs__law_poly_0).slot "c" = some 2 := by kernel_rfl
@[simp] theorem bs__law_poly_0_ground : ((T.sc f__law_poly call).blk cs__law_poly_0).slot "ground" = some 0 := by kernel_rfl
@[simp] theorem bt__law_poly_0_c : ((T.sc f__law_poly call).blk cs__law_poly_0).tslot "c" = some 2 := by kernel_rfl
@[simp] theorem sl__law_poly_Poly : (T.sc f__law_poly call).slot "Poly" = none := by kernel_rfl
@[simp] theorem gl__law_poly_Poly : (T.sc f__law_poly call).glob "Poly" = .cls := by kernel_rfl
@[simp] theorem sl__law_poly_ground : (T.sc f__law_poly call).slot "ground" = some 0 := by kernel_rfl
@[simp] theorem sl__law_poly_row : (T.sc f__law_poly call).slot "row" = some 1 := by kernel_rfl
@[simp] theorem NL__law_refuses : f__law_refuses.N.length = 3 := rfl
@[simp] theorem sl__law_refuses_ZeroDivisor : (T.sc f__law_refuses call).slot "ZeroDivisor" = none := by kernel_rfl
@[simp] theorem gl__law_refuses_ZeroDivisor : (T.sc f__law_refuses call).glob "ZeroDivisor" = .exc := by kernel_rfl
@[simp] theorem sl__law_refuses_told : (T.sc f__law_refuses call).slot "told" = some 2 := by kernel_rfl
@[simp] theorem sl__law_refuses_f : (T.sc f__law_refuses call).slot "f" = some 0 := by kernel_rfl
@[simp] theorem sl__law_refuses_g : (T.sc f__law_refuses call).slot "g" = some 1 := by kernel_rfl
@[simp] theorem st__law_refuses_told : (T.sc f__law_refuses call).tslot "told" = some 2 := by kernel_rfl
@[simp] theorem NL_law : f_law.N.length = 8 := rfl
@[simp] theorem sl_law__law_numbers : (T.sc f_law call).slot "_law_numbers" = none := by kernel_rfl
@[simp] theorem gl_law__law_numbers : (T.sc f_law call).glob "_law_numbers" = .fn := by kernel_rfl
@[simp] theorem sl_law_script : (T.sc f_law call).slot "script" = some 0 := by kernel_rfl
@[simp] theorem sl_law__law_prime : (T.sc f_law call).slot "_law_prime" = none := by kernel_rfl
@[simp] theorem gl_law__law_prime : (T.sc f_law call).glob "_law_prime" = .fnN := by kernel_rfl
@[simp] theorem sl_law_numbers : (T.sc f_law call).slot "numbers" = some 1 := by kernel_rfl
@[simp] theorem sl_law__law_ground : (T.sc f_law call).slot "_law_ground" = none := by kernel_rfl
@[simp] theorem gl_law__law_ground : (T.sc f_law call).glob "_law_ground" = .fn := by kernel_rfl
@[simp] theorem sl_law_p : (T.sc f_law call).slot "p" = some 2 := by kernel_rfl
@[simp] theorem sl_law__law_poly : (T.sc f_law call).slot "_law_poly" = none := by kernel_rfl
@[simp] theorem gl_law__law_poly : (T.sc f_law call).glob "_law_poly" = .fn := by kernel_rfl
@[simp] theorem sl_law_ground : (T.sc f_law call).slot "ground" = some 3 := by kernel_rfl
@[simp] theorem sl_law_Poly : (T.sc f_law call).slot "Poly" = none := by kernel_rfl
@[simp] theorem gl_law_Poly : (T.sc f_law call).glob "Poly" = .cls := by kernel_rfl
@[simp] theorem sl_law__law_row : (T.sc f_law call).slot "_law_row" = none := by kernel_rfl
@[simp] theorem gl_law__law_row : (T.sc f_law call).glob "_law_row" = .fnN := by kernel_rfl
@[simp] theorem sl_law_zero : (T.sc f_law call).slot "zero" = some 6 := by kernel_rfl
@[simp] theorem sl_law_g : (T.sc f_law call).slot "g" = some 5 := by kernel_rfl
@[simp] theorem sl_law__law_refuses : (T.sc f_law call).slot "_law_refuses" = none := by kernel_rfl
@[simp] theorem gl_law__law_refuses : (T.sc f_law call).glob "_law_refuses" = .fn := by kernel_rfl
@[simp] theorem sl_law_f : (T.sc f_law call).slot "f" = some 4 := by kernel_rfl
@[simp] theorem sl_law_own : (T.sc f_law call).slot "own" = some 7 := by kernel_rfl
@[simp] theorem st_law_numbers : (T.sc f_law call).tslot "numbers" = some 1 := by kernel_rfl
@[simp] theorem st_law_p : (T.sc f_law call).tslot "p" = some 2 := by kernel_rfl
@[simp] theorem st_law_ground : (T.sc f_law call).tslot "ground" = some 3 := by kernel_rfl
@[simp] theorem st_law_f : (T.sc f_law call).tslot "f" = some 4 := by kernel_rfl
@[simp] theorem st_law_g : (T.sc f_law call).tslot "g" = some 5 := by kernel_rfl
@[simp] theorem st_law_zero : (T.sc f_law call).tslot "zero" = some 6 := by kernel_rfl
@[simp] theorem st_law_own : (T.sc f_law call).tslot "own" = some 7 := by kernel_rfl
end
@[simp] theorem isC_Ratio : T.isC "Ratio" = true := by kernel_rfl
@[simp] theorem isF_Ratio_n : T.isF "Ratio" "n" = true := by kernel_rfl
@[simp] theorem isF_Ratio_d : T.isF "Ratio" "d" = true := by kernel_rfl
@[simp] theorem hasM_Ratiou_addu : T.hasM "Ratio" "__add__" = true := by kernel_rfl
@[simp] theorem hasO_Ratiou_addu : T.hasO "Ratio" "__add__" 2 = true := by kernel_rfl
@[simp] theorem hasM_Ratiou_subu : T.hasM "Ratio" "__sub__" = true := by kernel_rfl
@[simp] theorem hasO_Ratiou_subu : T.hasO "Ratio" "__sub__" 2 = true := by kernel_rfl
@[simp] theorem hasM_Ratiou_mulu : T.hasM "Ratio" "__mul__" = true := by kernel_rfl
@[simp] theorem hasO_Ratiou_mulu : T.hasO "Ratio" "__mul__" 2 = true := by kernel_rfl
@[simp] theorem hasM_Ratiou_equ : T.hasM "Ratio" "__eq__" = true := by kernel_rfl
@[simp] theorem hasO_Ratiou_equ : T.hasO "Ratio" "__eq__" 2 = true := by kernel_rfl
@[simp] theorem hasM_Ratio_is_zero : T.hasM "Ratio" "is_zero" = true := by kernel_rfl
@[simp] theorem hasO_Ratio_is_zero : T.hasO "Ratio" "is_zero" 1 = true := by kernel_rfl
@[simp] theorem hasM_Ratio_inverse : T.hasM "Ratio" "inverse" = true := by kernel_rfl
@[simp] theorem hasO_Ratio_inverse : T.hasO "Ratio" "inverse" 1 = true := by kernel_rfl
@[simp] theorem isC_Residue : T.isC "Residue" = true := by kernel_rfl
@[simp] theorem isF_Residue_p : T.isF "Residue" "p" = true := by kernel_rfl
@[simp] theorem isF_Residue_n : T.isF "Residue" "n" = true := by kernel_rfl
@[simp] theorem hasM_Residueu_addu : T.hasM "Residue" "__add__" = true := by kernel_rfl
@[simp] theorem hasO_Residueu_addu : T.hasO "Residue" "__add__" 2 = true := by kernel_rfl
@[simp] theorem hasM_Residueu_subu : T.hasM "Residue" "__sub__" = true := by kernel_rfl
@[simp] theorem hasO_Residueu_subu : T.hasO "Residue" "__sub__" 2 = true := by kernel_rfl
@[simp] theorem hasM_Residueu_mulu : T.hasM "Residue" "__mul__" = true := by kernel_rfl
@[simp] theorem hasO_Residueu_mulu : T.hasO "Residue" "__mul__" 2 = true := by kernel_rfl
@[simp] theorem hasM_Residueu_equ : T.hasM "Residue" "__eq__" = true := by kernel_rfl
@[simp] theorem hasO_Residueu_equ : T.hasO "Residue" "__eq__" 2 = true := by kernel_rfl
@[simp] theorem hasM_Residue_is_zero : T.hasM "Residue" "is_zero" = true := by kernel_rfl
@[simp] theorem hasO_Residue_is_zero : T.hasO "Residue" "is_zero" 1 = true := by kernel_rfl
@[simp] theorem hasM_Residue_inverse : T.hasM "Residue" "inverse" = true := by kernel_rfl
@[simp] theorem hasO_Residue_inverse : T.hasO "Residue" "inverse" 1 = true := by kernel_rfl
@[simp] theorem hasM_Residue_power : T.hasM "Residue" "power" = true := by kernel_rfl
@[simp] theorem hasO_Residue_power : T.hasO "Residue" "power" 2 = true := by kernel_rfl
@[simp] theorem isC_Ground : T.isC "Ground" = true := by kernel_rfl
@[simp] theorem isF_Ground_p : T.isF "Ground" "p" = true := by kernel_rfl
@[simp] theorem hasM_Groundu_equ : T.hasM "Ground" "__eq__" = true := by kernel_rfl
@[simp] theorem hasO_Groundu_equ : T.hasO "Ground" "__eq__" 2 = true := by kernel_rfl
@[simp] theorem hasM_Ground_number : T.hasM "Ground" "number" = true := by kernel_rfl
@[simp] theorem hasO_Ground_number : T.hasO "Ground" "number" 3 = true := by kernel_rfl
@[simp] theorem hasM_Ground_zero : T.hasM "Ground" "zero" = true := by kernel_rfl
@[simp] theorem hasO_Ground_zero : T.hasO "Ground" "zero" 1 = true := by kernel_rfl
@[simp] theorem hasM_Ground_one : T.hasM "Ground" "one" = true := by kernel_rfl
@[simp] theorem hasO_Ground_one : T.hasO "Ground" "one" 1 = true := by kernel_rfl
@[simp] theorem hasM_Ground_is_member : T.hasM "Ground" "is_member" = true := by kernel_rfl
@[simp] theorem hasO_Ground_is_member : T.hasO "Ground" "is_member" 2 = true := by kernel_rfl
@[simp] theorem isC_Poly : T.isC "Poly" = true := by kernel_rfl
@[simp] theorem isF_Poly_ground : T.isF "Poly" "ground" = true := by kernel_rfl
@[simp] theorem isF_Poly_row : T.isF "Poly" "row" = true := by kernel_rfl
@[simp] theorem hasM_Polyu_addu : T.hasM "Poly" "__add__" = true := by kernel_rfl
@[simp] theorem hasO_Polyu_addu : T.hasO "Poly" "__add__" 2 = true := by kernel_rfl
@[simp] theorem hasM_Polyu_mulu : T.hasM "Poly" "__mul__" = true := by kernel_rfl
@[simp] theorem hasO_Polyu_mulu : T.hasO "Poly" "__mul__" 2 = true := by kernel_rfl
@[simp] theorem hasM_Polyu_floordivu : T.hasM "Poly" "__floordiv__" = true := by kernel_rfl
@[simp] theorem hasO_Polyu_floordivu : T.hasO "Poly" "__floordiv__" 2 = true := by kernel_rfl
@[simp] theorem hasM_Polyu_modu : T.hasM "Poly" "__mod__" = true := by kernel_rfl
@[simp] theorem hasO_Polyu_modu : T.hasO "Poly" "__mod__" 2 = true := by kernel_rfl
@[simp] theorem hasM_Polyu_equ : T.hasM "Poly" "__eq__" = true := by kernel_rfl
@[simp] theorem hasO_Polyu_equ : T.hasO "Poly" "__eq__" 2 = true := by kernel_rfl
@[simp] theorem hasM_Poly_degree : T.hasM "Poly" "degree" = true := by kernel_rfl
@[simp] theorem hasO_Poly_degree : T.hasO "Poly" "degree" 1 = true := by kernel_rfl
@[simp] theorem hasM_Poly_is_zero : T.hasM "Poly" "is_zero" = true := by kernel_rfl
@[simp] theorem hasO_Poly_is_zero : T.hasO "Poly" "is_zero" 1 = true := by kernel_rfl
@[simp] theorem hasM_Poly_coefficient : T.hasM "Poly" "coefficient" = true := by kernel_rfl
@[simp] theorem hasO_Poly_coefficient : T.hasO "Poly" "coefficient" 2 = true := by kernel_rfl
@[simp] theorem hasM_Poly_scaled : T.hasM "Poly" "scaled" = true := by kernel_rfl
@[simp] theorem hasO_Poly_scaled : T.hasO "Poly" "scaled" 2 = true := by kernel_rfl
@[simp] theorem hasM_Poly_monic : T.hasM "Poly" "monic" = true := by kernel_rfl
@[simp] theorem hasO_Poly_monic : T.hasO "Poly" "monic" 1 = true := by kernel_rfl
@[simp] theorem exm_ZeroDivisor_ZeroDivisor : T.exm "ZeroDivisor" "ZeroDivisor" = some true := by kernel_rfl
@[simp] theorem exm_Malformed_ZeroDivisor : T.exm "Malformed" "ZeroDivisor" = some false := by kernel_rfl
section
variable (n : Nat)
theorem cf_powered (d0 d1 d2 : Dat) : (evD T (n + 1)).fn "powered" [d0, d1, d2] = runB T (evD T n) f_powered [d0, d1, d2] := by kernel_rfl
theorem cf_is_integer (d0 : Dat) : (evD T (n + 1)).fn "is_integer" [d0] = runB T (evD T n) f_is_integer [d0] := by kernel_rfl
theorem cf_Ratiou_initu_1 (d0 : Dat) : (evD T (n + 1)).mkI "Ratio" [d0] = runBI T (evD T n) "Ratio" f_Ratiou_initu [d0, .v (.int 1)] := by kernel_rfl
theorem cf_Ratiou_initu (d0 d1 : Dat) : (evD T (n + 1)).mkI "Ratio" [d0, d1] = runBI T (evD T n) "Ratio" f_Ratiou_initu [d0, d1] := by kernel_rfl
theorem cf_Ratiou_addu (d0 d1 : Dat) : (evD T (n + 1)).mt "Ratio" "__add__" [d0, d1] = runB T (evD T n) f_Ratiou_addu [d0, d1] := by kernel_rfl
theorem cf_Ratiou_subu (d0 d1 : Dat) : (evD T (n + 1)).mt "Ratio" "__sub__" [d0, d1] = runB T (evD T n) f_Ratiou_subu [d0, d1] := by kernel_rfl
theorem cf_Ratiou_mulu (d0 d1 : Dat) : (evD T (n + 1)).mt "Ratio" "__mul__" [d0, d1] = runB T (evD T n) f_Ratiou_mulu [d0, d1] := by kernel_rfl
theorem cf_Ratiou_equ (d0 d1 : Dat) : (evD T (n + 1)).mt "Ratio" "__eq__" [d0, d1] = runB T (evD T n) f_Ratiou_equ [d0, d1] := by kernel_rfl
theorem cf_Ratio_is_zero (d0 : Dat) : (evD T (n + 1)).mt "Ratio" "is_zero" [d0] = runB T (evD T n) f_Ratio_is_zero [d0] := by kernel_rfl
theorem cf_Ratio_inverse (d0 : Dat) : (evD T (n + 1)).mt "Ratio" "inverse" [d0] = runB T (evD T n) f_Ratio_inverse [d0] := by kernel_rfl
theorem cf__require_ratio (d0 : Dat) : (evD T (n + 1)).fn "_require_ratio" [d0] = runB T (evD T n) f__require_ratio [d0] := by kernel_rfl
theorem cf_is_small_prime (d0 : Dat) : (evD T (n + 1)).fn "is_small_prime" [d0] = runB T (evD T n) f_is_small_prime [d0] := by kernel_rfl
theorem cf_Residueu_initu (d0 d1 : Dat) : (evD T (n + 1)).mkI "Residue" [d0, d1] = runBI T (evD T n) "Residue" f_Residueu_initu [d0, d1] := by kernel_rfl
theorem cf_Residueu_addu (d0 d1 : Dat) : (evD T (n + 1)).mt "Residue" "__add__" [d0, d1] = runB T (evD T n) f_Residueu_addu [d0, d1] := by kernel_rfl
theorem cf_Residueu_subu (d0 d1 : Dat) : (evD T (n + 1)).mt "Residue" "__sub__" [d0, d1] = runB T (evD T n) f_Residueu_subu [d0, d1] := by kernel_rfl
theorem cf_Residueu_mulu (d0 d1 : Dat) : (evD T (n + 1)).mt "Residue" "__mul__" [d0, d1] = runB T (evD T n) f_Residueu_mulu [d0, d1] := by kernel_rfl
theorem cf_Residueu_equ (d0 d1 : Dat) : (evD T (n + 1)).mt "Residue" "__eq__" [d0, d1] = runB T (evD T n) f_Residueu_equ [d0, d1] := by kernel_rfl
theorem cf_Residue_is_zero (d0 : Dat) : (evD T (n + 1)).mt "Residue" "is_zero" [d0] = runB T (evD T n) f_Residue_is_zero [d0] := by kernel_rfl
theorem cf_Residue_inverse (d0 : Dat) : (evD T (n + 1)).mt "Residue" "inverse" [d0] = runB T (evD T n) f_Residue_inverse [d0] := by kernel_rfl
theorem cf_Residue_power (d0 d1 : Dat) : (evD T (n + 1)).mt "Residue" "power" [d0, d1] = runB T (evD T n) f_Residue_power [d0, d1] := by kernel_rfl
theorem cf__require_like (d0 d1 : Dat) : (evD T (n + 1)).fn "_require_like" [d0, d1] = runB T (evD T n) f__require_like [d0, d1] := by kernel_rfl
theorem cf_Groundu_initu_0  : (evD T (n + 1)).mkI "Ground" [] = runBI T (evD T n) "Ground" f_Groundu_initu [.v (.int 0)] := by kernel_rfl
theorem cf_Groundu_initu (d0 : Dat) : (evD T (n + 1)).mkI "Ground" [d0] = runBI T (evD T n) "Ground" f_Groundu_initu [d0] := by kernel_rfl
theorem cf_Groundu_equ (d0 d1 : Dat) : (evD T (n + 1)).mt "Ground" "__eq__" [d0, d1] = runB T (evD T n) f_Groundu_equ [d0, d1] := by kernel_rfl
theorem cf_Ground_number_2 (d0 d1 : Dat) : (evD T (n + 1)).mt "Ground" "number" [d0, d1] = runB T (evD T n) f_Ground_number [d0, d1, .v (.int 1)] := by kernel_rfl
theorem cf_Ground_number (d0 d1 d2 : Dat) : (evD T (n + 1)).mt "Ground" "number" [d0, d1, d2] = runB T (evD T n) f_Ground_number [d0, d1, d2] := by kernel_rfl
theorem cf_Ground_zero (d0 : Dat) : (evD T (n + 1)).mt "Ground" "zero" [d0] = runB T (evD T n) f_Ground_zero [d0] := by kernel_rfl
theorem cf_Ground_one (d0 : Dat) : (evD T (n + 1)).mt "Ground" "one" [d0] = runB T (evD T n) f_Ground_one [d0] := by kernel_rfl
theorem cf_Ground_is_member (d0 d1 : Dat) : (evD T (n + 1)).mt "Ground" "is_member" [d0, d1] = runB T (evD T n) f_Ground_is_member [d0, d1] := by kernel_rfl
theorem cf_taken (d0 d1 : Dat) : (evD T (n + 1)).fn "taken" [d0, d1] = runB T (evD T n) f_taken [d0, d1] := by kernel_rfl
theorem cf_Polyu_initu (d0 d1 : Dat) : (evD T (n + 1)).mkI "Poly" [d0, d1] = runBI T (evD T n) "Poly" f_Polyu_initu [d0, d1] := by kernel_rfl
theorem cf_Polyu_addu (d0 d1 : Dat) : (evD T (n + 1)).mt "Poly" "__add__" [d0, d1] = runB T (evD T n) f_Polyu_addu [d0, d1] := by kernel_rfl
theorem cf_Polyu_mulu (d0 d1 : Dat) : (evD T (n + 1)).mt "Poly" "__mul__" [d0, d1] = runB T (evD T n) f_Polyu_mulu [d0, d1] := by kernel_rfl
theorem cf_Polyu_floordivu (d0 d1 : Dat) : (evD T (n + 1)).mt "Poly" "__floordiv__" [d0, d1] = runB T (evD T n) f_Polyu_floordivu [d0, d1] := by kernel_rfl
theorem cf_Polyu_modu (d0 d1 : Dat) : (evD T (n + 1)).mt "Poly" "__mod__" [d0, d1] = runB T (evD T n) f_Polyu_modu [d0, d1] := by kernel_rfl
theorem cf_Polyu_equ (d0 d1 : Dat) : (evD T (n + 1)).mt "Poly" "__eq__" [d0, d1] = runB T (evD T n) f_Polyu_equ [d0, d1] := by kernel_rfl
theorem cf_Poly_degree (d0 : Dat) : (evD T (n + 1)).mt "Poly" "degree" [d0] = runB T (evD T n) f_Poly_degree [d0] := by kernel_rfl
theorem cf_Poly_is_zero (d0 : Dat) : (evD T (n + 1)).mt "Poly" "is_zero" [d0] = runB T (evD T n) f_Poly_is_zero [d0] := by kernel_rfl
theorem cf_Poly_coefficient (d0 d1 : Dat) : (evD T (n + 1)).mt "Poly" "coefficient" [d0, d1] = runB T (evD T n) f_Poly_coefficient [d0, d1] := by kernel_rfl
theorem cf_Poly_scaled (d0 d1 : Dat) : (evD T (n + 1)).mt "Poly" "scaled" [d0, d1] = runB T (evD T n) f_Poly_scaled [d0, d1] := by kernel_rfl
theorem cf_Poly_monic (d0 : Dat) : (evD T (n + 1)).mt "Poly" "monic" [d0] = runB T (evD T n) f_Poly_monic [d0] := by kernel_rfl
theorem cf_require_like (d0 d1 : Dat) : (evD T (n + 1)).fn "require_like" [d0, d1] = runB T (evD T n) f_require_like [d0, d1] := by kernel_rfl
theorem cf__divided (d0 d1 : Dat) : (evD T (n + 1)).fn "_divided" [d0, d1] = runB T (evD T n) f__divided [d0, d1] := by kernel_rfl
theorem cf__law_numbers (d0 : Dat) : (evD T (n + 1)).fn "_law_numbers" [d0] = runB T (evD T n) f__law_numbers [d0] := by kernel_rfl
theorem cf__law_next (us : List Dat) (d0 : Dat) : (evD T (n + 1)).fnN "_law_next" us [d0] = runBN T (evD T n) f__law_next us [d0] := by kernel_rfl
theorem cf__law_prime (us : List Dat)  : (evD T (n + 1)).fnN "_law_prime" us [] = runBN T (evD T n) f__law_prime us [] := by kernel_rfl
theorem cf__law_ground (d0 : Dat) : (evD T (n + 1)).fn "_law_ground" [d0] = runB T (evD T n) f__law_ground [d0] := by kernel_rfl
theorem cf__law_rest (d0 d1 : Dat) : (evD T (n + 1)).fn "_law_rest" [d0, d1] = runB T (evD T n) f__law_rest [d0, d1] := by kernel_rfl
theorem cf__law_trim (d0 : Dat) : (evD T (n + 1)).fn "_law_trim" [d0] = runB T (evD T n) f__law_trim [d0] := by kernel_rfl
theorem cf__law_row (us : List Dat) (d0 d1 : Dat) : (evD T (n + 1)).fnN "_law_row" us [d0, d1] = runBN T (evD T n) f__law_row us [d0, d1] := by kernel_rfl
theorem cf__law_poly (d0 d1 : Dat) : (evD T (n + 1)).fn "_law_poly" [d0, d1] = runB T (evD T n) f__law_poly [d0, d1] := by kernel_rfl
theorem cf__law_refuses (d0 d1 : Dat) : (evD T (n + 1)).fn "_law_refuses" [d0, d1] = runB T (evD T n) f__law_refuses [d0, d1] := by kernel_rfl
end
end D08
namespace D08
open PySem L2 Sf
def PR : List Dat := [2, 3, 5, 7, 11, 13, 17, 19, 23, 29, 31].map dI
def res (p a : Int) : Dat := .ins "Residue" ["p", "n"] [dI p, dI a]
def rat (a b : Int) : Dat := .ins "Ratio" ["n", "d"] [dI a, dI b]
def gnd (p : Int) : Dat := .ins "Ground" ["p"] [dI p]
def zdv : Exn := ⟨"ZeroDivisor", [], []⟩
section
variable (n : Nat)
theorem int_i (i : Int) : (evD T (n + 1)).fn "is_integer" [dI i] = .ret (.pu (dB true)) := by
  rw [cf_is_integer]; simp only [runB, runBN, runBI]; (conv in (FnI.body f_is_integer) => whnf); simp (decide := true) [hot_glob, hotK, cls_int, cls_bool, cls_str, cls_list, cls_tuple, cls_own, sc_calm, sc_top, sc_lk, sc_N, lk_kind, lk_hasM, lk_hasO, lk_isC, lk_isF, lk_exm, lk_rm, lk_call, hot_slot, hot_tslot, hot_calm, hot_top, bind_ok, bind_ex, bind_no, so_ok, so_ex, so_no, dat_ok, dat_ex, dat_no, pu_ok, pu_ex, pu_no, of_some, of_none, sb_nx, sb_rt, sb_bk, sb_ct, sb_ex, sb_no, oc_ret, oc_ex, ocD_ret, ocD_ex, setSl_pu, setSl_fr, dat_pu, dat_fr, flatV, flatD, runB, runBN, runBI, FnI.start, modI, binI, cmpI, imp2, evSs, evS, evE, evEs, evB, evT, evTs, evHd, evTl, evE1, evLL, evI, evIf, evG, evTg, evH, callN, iterN, noStar, notSet, notComp, notSl, plainO, ownV, isaD, tyOf, knownT, isaT, boolD, intOf, strOf, seqOf, opB, opC, negD, scal, Sf.isNon, hndN, isExcK, isStrK, tgNs, tgOf, setTg, itemD, bltC, blt1, blt2, knB, imp2, listD, opN, cmpI, Lk.knows, isOw, lineOk, isTupE, isLT, look_cons, eqO_ii, eqO_bb, eqO_ss, eqO_in, eqO_ni, eqO_ins, eqO_tup, isRev, revD]
theorem prime_i (i : Int) : (evD T (n + 2)).fn "is_small_prime" [dI i] = .ret (.pu (dB (memD (.int i) PR))) := by
  rw [cf_is_small_prime]; simp only [runB, runBN, runBI]; (conv in (FnI.body f_is_small_prime) => whnf); simp (decide := true) [hot_glob, hotK, cls_int, cls_bool, cls_str, cls_list, cls_tuple, cls_own, sc_calm, sc_top, sc_lk, sc_N, lk_kind, lk_hasM, lk_hasO, lk_isC, lk_isF, lk_exm, lk_rm, lk_call, hot_slot, hot_tslot, hot_calm, hot_top, bind_ok, bind_ex, bind_no, so_ok, so_ex, so_no, dat_ok, dat_ex, dat_no, pu_ok, pu_ex, pu_no, of_some, of_none, sb_nx, sb_rt, sb_bk, sb_ct, sb_ex, sb_no, oc_ret, oc_ex, ocD_ret, ocD_ex, setSl_pu, setSl_fr, dat_pu, dat_fr, flatV, flatD, runB, runBN, runBI, FnI.start, modI, binI, cmpI, imp2, evSs, evS, evE, evEs, evB, evT, evTs, evHd, evTl, evE1, evLL, evI, evIf, evG, evTg, evH, callN, iterN, noStar, notSet, notComp, notSl, plainO, ownV, isaD, tyOf, knownT, isaT, boolD, intOf, strOf, seqOf, opB, opC, negD, scal, Sf.isNon, hndN, isExcK, isStrK, tgNs, tgOf, setTg, itemD, bltC, blt1, blt2, knB, imp2, listD, opN, cmpI, Lk.knows, isOw, lineOk, isTupE, isLT, look_cons, eqO_ii, eqO_bb, eqO_ss, eqO_in, eqO_ni, eqO_ins, eqO_tup, isRev, revD, int_i]
  rfl
/-! ### residues -/
theorem res_mk (p i : Int) (hp : memD (.int p) PR = true) (h0 : 0 < p) : (evD T (n + 3)).mkI "Residue" [dI p, dI i] = .ret (.pu (res p (i % p))) := by
  rw [cf_Residueu_initu]; simp only [runB, runBN, runBI]; (conv in (FnI.body f_Residueu_initu) => whnf); simp (decide := true) [hot_glob, hotK, cls_int, cls_bool, cls_str, cls_list, cls_tuple, cls_own, sc_calm, sc_top, sc_lk, sc_N, lk_kind, lk_hasM, lk_hasO, lk_isC, lk_isF, lk_exm, lk_rm, lk_call, hot_slot, hot_tslot, hot_calm, hot_top, bind_ok, bind_ex, bind_no, so_ok, so_ex, so_no, dat_ok, dat_ex, dat_no, pu_ok, pu_ex, pu_no, of_some, of_none, sb_nx, sb_rt, sb_bk, sb_ct, sb_ex, sb_no, oc_ret, oc_ex, ocD_ret, ocD_ex, setSl_pu, setSl_fr, dat_pu, dat_fr, flatV, flatD, runB, runBN, runBI, FnI.start, modI, binI, cmpI, imp2, evSs, evS, evE, evEs, evB, evT, evTs, evHd, evTl, evE1, evLL, evI, evIf, evG, evTg, evH, callN, iterN, noStar, notSet, notComp, notSl, plainO, ownV, isaD, tyOf, knownT, isaT, boolD, intOf, strOf, seqOf, opB, opC, negD, scal, Sf.isNon, hndN, isExcK, isStrK, tgNs, tgOf, setTg, itemD, bltC, blt1, blt2, knB, imp2, listD, opN, cmpI, Lk.knows, isOw, lineOk, isTupE, isLT, look_cons, eqO_ii, eqO_bb, eqO_ss, eqO_in, eqO_ni, eqO_ins, eqO_tup, isRev, revD, int_i, prime_i, hp, h0, res]
theorem res_eq (p a b : Int) : (evD T (n + 1)).mt "Residue" "__eq__" [res p a, res p b] = .ret (.pu (dB (decide (a = b)))) := by
  rw [cf_Residueu_equ]; simp only [runB, runBN, runBI]; (conv in (FnI.body f_Residueu_equ) => whnf); simp (decide := true) [hot_glob, hotK, cls_int, cls_bool, cls_str, cls_list, cls_tuple, cls_own, sc_calm, sc_top, sc_lk, sc_N, lk_kind, lk_hasM, lk_hasO, lk_isC, lk_isF, lk_exm, lk_rm, lk_call, hot_slot, hot_tslot, hot_calm, hot_top, bind_ok, bind_ex, bind_no, so_ok, so_ex, so_no, dat_ok, dat_ex, dat_no, pu_ok, pu_ex, pu_no, of_some, of_none, sb_nx, sb_rt, sb_bk, sb_ct, sb_ex, sb_no, oc_ret, oc_ex, ocD_ret, ocD_ex, setSl_pu, setSl_fr, dat_pu, dat_fr, flatV, flatD, runB, runBN, runBI, FnI.start, modI, binI, cmpI, imp2, evSs, evS, evE, evEs, evB, evT, evTs, evHd, evTl, evE1, evLL, evI, evIf, evG, evTg, evH, callN, iterN, noStar, notSet, notComp, notSl, plainO, ownV, isaD, tyOf, knownT, isaT, boolD, intOf, strOf, seqOf, opB, opC, negD, scal, Sf.isNon, hndN, isExcK, isStrK, tgNs, tgOf, setTg, itemD, bltC, blt1, blt2, knB, imp2, listD, opN, cmpI, Lk.knows, isOw, lineOk, isTupE, isLT, look_cons, eqO_ii, eqO_bb, eqO_ss, eqO_in, eqO_ni, eqO_ins, eqO_tup, isRev, revD, res]
theorem res_isz (p a : Int) : (evD T (n + 1)).mt "Residue" "is_zero" [res p a] = .ret (.pu (dB (decide (a = 0)))) := by
  rw [cf_Residue_is_zero]; simp only [runB, runBN, runBI]; (conv in (FnI.body f_Residue_is_zero) => whnf); simp (decide := true) [hot_glob, hotK, cls_int, cls_bool, cls_str, cls_list, cls_tuple, cls_own, sc_calm, sc_top, sc_lk, sc_N, lk_kind, lk_hasM, lk_hasO, lk_isC, lk_isF, lk_exm, lk_rm, lk_call, hot_slot, hot_tslot, hot_calm, hot_top, bind_ok, bind_ex, bind_no, so_ok, so_ex, so_no, dat_ok, dat_ex, dat_no, pu_ok, pu_ex, pu_no, of_some, of_none, sb_nx, sb_rt, sb_bk, sb_ct, sb_ex, sb_no, oc_ret, oc_ex, ocD_ret, ocD_ex, setSl_pu, setSl_fr, dat_pu, dat_fr, flatV, flatD, runB, runBN, runBI, FnI.start, modI, binI, cmpI, imp2, evSs, evS, evE, evEs, evB, evT, evTs, evHd, evTl, evE1, evLL, evI, evIf, evG, evTg, evH, callN, iterN, noStar, notSet, notComp, notSl, plainO, ownV, isaD, tyOf, knownT, isaT, boolD, intOf, strOf, seqOf, opB, opC, negD, scal, Sf.isNon, hndN, isExcK, isStrK, tgNs, tgOf, setTg, itemD, bltC, blt1, blt2, knB, imp2, listD, opN, cmpI, Lk.knows, isOw, lineOk, isTupE, isLT, look_cons, eqO_ii, eqO_bb, eqO_ss, eqO_in, eqO_ni, eqO_ins, eqO_tup, isRev, revD, res]
theorem like_ok (p a b : Int) : (evD T (n + 1)).fn "_require_like" [res p a, res p b] = .ret (.pu dN) := by
  rw [cf__require_like]; simp only [runB, runBN, runBI]; (conv in (FnI.body f__require_like) => whnf); simp (decide := true) [hot_glob, hotK, cls_int, cls_bool, cls_str, cls_list, cls_tuple, cls_own, sc_calm, sc_top, sc_lk, sc_N, lk_kind, lk_hasM, lk_hasO, lk_isC, lk_isF, lk_exm, lk_rm, lk_call, hot_slot, hot_tslot, hot_calm, hot_top, bind_ok, bind_ex, bind_no, so_ok, so_ex, so_no, dat_ok, dat_ex, dat_no, pu_ok, pu_ex, pu_no, of_some, of_none, sb_nx, sb_rt, sb_bk, sb_ct, sb_ex, sb_no, oc_ret, oc_ex, ocD_ret, ocD_ex, setSl_pu, setSl_fr, dat_pu, dat_fr, flatV, flatD, runB, runBN, runBI, FnI.start, modI, binI, cmpI, imp2, evSs, evS, evE, evEs, evB, evT, evTs, evHd, evTl, evE1, evLL, evI, evIf, evG, evTg, evH, callN, iterN, noStar, notSet, notComp, notSl, plainO, ownV, isaD, tyOf, knownT, isaT, boolD, intOf, strOf, seqOf, opB, opC, negD, scal, Sf.isNon, hndN, isExcK, isStrK, tgNs, tgOf, setTg, itemD, bltC, blt1, blt2, knB, imp2, listD, opN, cmpI, Lk.knows, isOw, lineOk, isTupE, isLT, look_cons, eqO_ii, eqO_bb, eqO_ss, eqO_in, eqO_ni, eqO_ins, eqO_tup, isRev, revD, res]
theorem res_mul (p a b : Int) (hp : memD (.int p) PR = true) (h0 : 0 < p) (hm : mulG a b = true) : (evD T (n + 4)).mt "Residue" "__mul__" [res p a, res p b] = .ret (.pu (res p (a * b % p))) := by
  have l := like_ok (n + 2) p a b
  have m := res_mk n p (a * b) hp h0
  unfold res at l m
  rw [cf_Residueu_mulu]; simp only [runB, runBN, runBI]; (conv in (FnI.body f_Residueu_mulu) => whnf); simp (decide := true) [hot_glob, hotK, cls_int, cls_bool, cls_str, cls_list, cls_tuple, cls_own, sc_calm, sc_top, sc_lk, sc_N, lk_kind, lk_hasM, lk_hasO, lk_isC, lk_isF, lk_exm, lk_rm, lk_call, hot_slot, hot_tslot, hot_calm, hot_top, bind_ok, bind_ex, bind_no, so_ok, so_ex, so_no, dat_ok, dat_ex, dat_no, pu_ok, pu_ex, pu_no, of_some, of_none, sb_nx, sb_rt, sb_bk, sb_ct, sb_ex, sb_no, oc_ret, oc_ex, ocD_ret, ocD_ex, setSl_pu, setSl_fr, dat_pu, dat_fr, flatV, flatD, runB, runBN, runBI, FnI.start, modI, binI, cmpI, imp2, evSs, evS, evE, evEs, evB, evT, evTs, evHd, evTl, evE1, evLL, evI, evIf, evG, evTg, evH, callN, iterN, noStar, notSet, notComp, notSl, plainO, ownV, isaD, tyOf, knownT, isaT, boolD, intOf, strOf, seqOf, opB, opC, negD, scal, Sf.isNon, hndN, isExcK, isStrK, tgNs, tgOf, setTg, itemD, bltC, blt1, blt2, knB, imp2, listD, opN, cmpI, Lk.knows, isOw, lineOk, isTupE, isLT, look_cons, eqO_ii, eqO_bb, eqO_ss, eqO_in, eqO_ni, eqO_ins, eqO_tup, isRev, revD, res, l, m, hm]
theorem res_add (p a b : Int) (hp : memD (.int p) PR = true) (h0 : 0 < p) : (evD T (n + 4)).mt "Residue" "__add__" [res p a, res p b] = .ret (.pu (res p ((a + b) % p))) := by
  have l := like_ok (n + 2) p a b
  have m := res_mk n p (a + b) hp h0
  unfold res at l m
  rw [cf_Residueu_addu]; simp only [runB, runBN, runBI]; (conv in (FnI.body f_Residueu_addu) => whnf); simp (decide := true) [hot_glob, hotK, cls_int, cls_bool, cls_str, cls_list, cls_tuple, cls_own, sc_calm, sc_top, sc_lk, sc_N, lk_kind, lk_hasM, lk_hasO, lk_isC, lk_isF, lk_exm, lk_rm, lk_call, hot_slot, hot_tslot, hot_calm, hot_top, bind_ok, bind_ex, bind_no, so_ok, so_ex, so_no, dat_ok, dat_ex, dat_no, pu_ok, pu_ex, pu_no, of_some, of_none, sb_nx, sb_rt, sb_bk, sb_ct, sb_ex, sb_no, oc_ret, oc_ex, ocD_ret, ocD_ex, setSl_pu, setSl_fr, dat_pu, dat_fr, flatV, flatD, runB, runBN, runBI, FnI.start, modI, binI, cmpI, imp2, evSs, evS, evE, evEs, evB, evT, evTs, evHd, evTl, evE1, evLL, evI, evIf, evG, evTg, evH, callN, iterN, noStar, notSet, notComp, notSl, plainO, ownV, isaD, tyOf, knownT, isaT, boolD, intOf, strOf, seqOf, opB, opC, negD, scal, Sf.isNon, hndN, isExcK, isStrK, tgNs, tgOf, setTg, itemD, bltC, blt1, blt2, knB, imp2, listD, opN, cmpI, Lk.knows, isOw, lineOk, isTupE, isLT, look_cons, eqO_ii, eqO_bb, eqO_ss, eqO_in, eqO_ni, eqO_ins, eqO_tup, isRev, revD, res, l, m]
theorem res_sub (p a b : Int) (hp : memD (.int p) PR = true) (h0 : 0 < p) : (evD T (n + 4)).mt "Residue" "__sub__" [res p a, res p b] = .ret (.pu (res p ((a - b) % p))) := by
  have l := like_ok (n + 2) p a b
  have m := res_mk n p (a - b) hp h0
  unfold res at l m
  rw [cf_Residueu_subu]; simp only [runB, runBN, runBI]; (conv in (FnI.body f_Residueu_subu) => whnf); simp (decide := true) [hot_glob, hotK, cls_int, cls_bool, cls_str, cls_list, cls_tuple, cls_own, sc_calm, sc_top, sc_lk, sc_N, lk_kind, lk_hasM, lk_hasO, lk_isC, lk_isF, lk_exm, lk_rm, lk_call, hot_slot, hot_tslot, hot_calm, hot_top, bind_ok, bind_ex, bind_no, so_ok, so_ex, so_no, dat_ok, dat_ex, dat_no, pu_ok, pu_ex, pu_no, of_some, of_none, sb_nx, sb_rt, sb_bk, sb_ct, sb_ex, sb_no, oc_ret, oc_ex, ocD_ret, ocD_ex, setSl_pu, setSl_fr, dat_pu, dat_fr, flatV, flatD, runB, runBN, runBI, FnI.start, modI, binI, cmpI, imp2, evSs, evS, evE, evEs, evB, evT, evTs, evHd, evTl, evE1, evLL, evI, evIf, evG, evTg, evH, callN, iterN, noStar, notSet, notComp, notSl, plainO, ownV, isaD, tyOf, knownT, isaT, boolD, intOf, strOf, seqOf, opB, opC, negD, scal, Sf.isNon, hndN, isExcK, isStrK, tgNs, tgOf, setTg, itemD, bltC, blt1, blt2, knB, imp2, listD, opN, cmpI, Lk.knows, isOw, lineOk, isTupE, isLT, look_cons, eqO_ii, eqO_bb, eqO_ss, eqO_in, eqO_ni, eqO_ins, eqO_tup, isRev, revD, res, l, m]
/-! ### rationals -/
theorem rat_mk (i d : Int) (h0 : 0 < d) (hd : d.natAbs < 2 ^ 8500) : (evD T (n + 1)).mkI "Ratio" [dI i, dI d] = .ret (.pu (rat (i / (Nat.gcd i.natAbs d.natAbs : Nat)) (d / (Nat.gcd i.natAbs d.natAbs : Nat)))) := by
  have g0 : 0 < Nat.gcd i.natAbs d.natAbs := Nat.gcd_pos_of_pos_right _ (by omega)
  have g1 : Nat.gcd i.natAbs d.natAbs ≤ d.natAbs := Nat.gcd_le_right _ (by omega)
  have lg : (((Nat.gcd i.natAbs d.natAbs : Nat) : Int)).natAbs.log2 < 9000 := by
    rw [Int.natAbs_natCast]
    have : (Nat.gcd i.natAbs d.natAbs).log2 < 8500 := (Nat.log2_lt (by omega)).mpr (Nat.lt_of_le_of_lt g1 hd)
    omega
  have dv : ∀ j : Int, divI j ((Nat.gcd i.natAbs d.natAbs : Nat) : Int) = some (j / ((Nat.gcd i.natAbs d.natAbs : Nat) : Int)) := fun j => by unfold divI; rw [if_pos ⟨by omega, lg⟩]
  have hd0 : ¬ d = 0 := by omega
  have hd1 : ¬ d < 0 := by omega
  clear hd
  have NL : f_Ratiou_initu.N.length = 4 := rfl
  rw [cf_Ratiou_initu]; simp only [runB, runBN, runBI]; (conv in (FnI.body f_Ratiou_initu) => whnf); simp (decide := true) [hot_glob, hotK, cls_int, cls_bool, cls_str, cls_list, cls_tuple, cls_own, sc_calm, sc_top, sc_lk, sc_N, lk_kind, lk_hasM, lk_hasO, lk_isC, lk_isF, lk_exm, lk_rm, lk_call, hot_slot, hot_tslot, hot_calm, hot_top, bind_ok, bind_ex, bind_no, so_ok, so_ex, so_no, dat_ok, dat_ex, dat_no, pu_ok, pu_ex, pu_no, of_some, of_none, sb_nx, sb_rt, sb_bk, sb_ct, sb_ex, sb_no, oc_ret, oc_ex, ocD_ret, ocD_ex, setSl_pu, setSl_fr, dat_pu, dat_fr, flatV, flatD, runB, runBN, runBI, FnI.start, modI, binI, cmpI, imp2, evSs, evS, evE, evEs, evB, evT, evTs, evHd, evTl, evE1, evLL, evI, evIf, evG, evTg, evH, callN, iterN, noStar, notSet, notComp, notSl, plainO, ownV, isaD, tyOf, knownT, isaT, boolD, intOf, strOf, seqOf, opB, opC, negD, scal, Sf.isNon, hndN, isExcK, isStrK, tgNs, tgOf, setTg, itemD, bltC, blt1, blt2, knB, imp2, listD, opN, cmpI, Lk.knows, isOw, lineOk, isTupE, isLT, look_cons, eqO_ii, eqO_bb, eqO_ss, eqO_in, eqO_ni, eqO_ins, eqO_tup, isRev, revD, hd0, hd1, dv, NL, rat]
  done
theorem rat_mkN (i d : Int) (h0 : d < 0) (hg : Nat.gcd i.natAbs d.natAbs = 1) : (evD T (n + 1)).mkI "Ratio" [dI i, dI d] = .ret (.pu (rat (-i) (-d))) := by
  have hd0 : ¬ d = 0 := by omega
  have dv : ∀ j : Int, divI j (-1) = some (-j) := fun j => by
    unfold divI
    rw [if_neg (by decide), if_pos (by decide), Int.fdiv_eq_ediv_of_dvd ⟨-j, by omega⟩]
    simp
  have NL : f_Ratiou_initu.N.length = 4 := rfl
  rw [cf_Ratiou_initu]; simp only [runB, runBN, runBI]; (conv in (FnI.body f_Ratiou_initu) => whnf); simp (decide := true) [hot_glob, hotK, cls_int, cls_bool, cls_str, cls_list, cls_tuple, cls_own, sc_calm, sc_top, sc_lk, sc_N, lk_kind, lk_hasM, lk_hasO, lk_isC, lk_isF, lk_exm, lk_rm, lk_call, hot_slot, hot_tslot, hot_calm, hot_top, bind_ok, bind_ex, bind_no, so_ok, so_ex, so_no, dat_ok, dat_ex, dat_no, pu_ok, pu_ex, pu_no, of_some, of_none, sb_nx, sb_rt, sb_bk, sb_ct, sb_ex, sb_no, oc_ret, oc_ex, ocD_ret, ocD_ex, setSl_pu, setSl_fr, dat_pu, dat_fr, flatV, flatD, runB, runBN, runBI, FnI.start, modI, binI, cmpI, imp2, evSs, evS, evE, evEs, evB, evT, evTs, evHd, evTl, evE1, evLL, evI, evIf, evG, evTg, evH, callN, iterN, noStar, notSet, notComp, notSl, plainO, ownV, isaD, tyOf, knownT, isaT, boolD, intOf, strOf, seqOf, opB, opC, negD, scal, Sf.isNon, hndN, isExcK, isStrK, tgNs, tgOf, setTg, itemD, bltC, blt1, blt2, knB, imp2, listD, opN, cmpI, Lk.knows, isOw, lineOk, isTupE, isLT, look_cons, eqO_ii, eqO_bb, eqO_ss, eqO_in, eqO_ni, eqO_ins, eqO_tup, isRev, revD, hd0, h0, hg, dv, NL, rat]
  done
theorem rat_eq (a b c d : Int) : (evD T (n + 1)).mt "Ratio" "__eq__" [rat a b, rat c d] = .ret (.pu (dB (decide (a = c) && decide (b = d)))) := by
  rw [cf_Ratiou_equ]; simp only [runB, runBN, runBI]; (conv in (FnI.body f_Ratiou_equ) => whnf); simp (decide := true) [hot_glob, hotK, cls_int, cls_bool, cls_str, cls_list, cls_tuple, cls_own, sc_calm, sc_top, sc_lk, sc_N, lk_kind, lk_hasM, lk_hasO, lk_isC, lk_isF, lk_exm, lk_rm, lk_call, hot_slot, hot_tslot, hot_calm, hot_top, bind_ok, bind_ex, bind_no, so_ok, so_ex, so_no, dat_ok, dat_ex, dat_no, pu_ok, pu_ex, pu_no, of_some, of_none, sb_nx, sb_rt, sb_bk, sb_ct, sb_ex, sb_no, oc_ret, oc_ex, ocD_ret, ocD_ex, setSl_pu, setSl_fr, dat_pu, dat_fr, flatV, flatD, runB, runBN, runBI, FnI.start, modI, binI, cmpI, imp2, evSs, evS, evE, evEs, evB, evT, evTs, evHd, evTl, evE1, evLL, evI, evIf, evG, evTg, evH, callN, iterN, noStar, notSet, notComp, notSl, plainO, ownV, isaD, tyOf, knownT, isaT, boolD, intOf, strOf, seqOf, opB, opC, negD, scal, Sf.isNon, hndN, isExcK, isStrK, tgNs, tgOf, setTg, itemD, bltC, blt1, blt2, knB, imp2, listD, opN, cmpI, Lk.knows, isOw, lineOk, isTupE, isLT, look_cons, eqO_ii, eqO_bb, eqO_ss, eqO_in, eqO_ni, eqO_ins, eqO_tup, isRev, revD, rat]
  by_cases h : a = c <;> simp [hot_glob, hotK, cls_int, cls_bool, cls_str, cls_list, cls_tuple, cls_own, sc_calm, sc_top, sc_lk, sc_N, lk_kind, lk_hasM, lk_hasO, lk_isC, lk_isF, lk_exm, lk_rm, lk_call, hot_slot, hot_tslot, hot_calm, hot_top, bind_ok, bind_ex, bind_no, so_ok, so_ex, so_no, dat_ok, dat_ex, dat_no, pu_ok, pu_ex, pu_no, of_some, of_none, sb_nx, sb_rt, sb_bk, sb_ct, sb_ex, sb_no, oc_ret, oc_ex, ocD_ret, ocD_ex, setSl_pu, setSl_fr, dat_pu, dat_fr, flatV, flatD, runB, runBN, runBI, FnI.start, modI, binI, cmpI, imp2, evSs, evS, evE, evEs, evB, evT, evTs, evHd, evTl, evE1, evLL, evI, evIf, evG, evTg, evH, callN, iterN, noStar, notSet, notComp, notSl, plainO, ownV, isaD, tyOf, knownT, isaT, boolD, intOf, strOf, seqOf, opB, opC, negD, scal, Sf.isNon, hndN, isExcK, isStrK, tgNs, tgOf, setTg, itemD, bltC, blt1, blt2, knB, imp2, listD, opN, cmpI, Lk.knows, isOw, lineOk, isTupE, isLT, look_cons, eqO_ii, eqO_bb, eqO_ss, eqO_in, eqO_ni, eqO_ins, eqO_tup, isRev, revD, h]
theorem rat_isz (a b : Int) : (evD T (n + 1)).mt "Ratio" "is_zero" [rat a b] = .ret (.pu (dB (decide (a = 0)))) := by
  rw [cf_Ratio_is_zero]; simp only [runB, runBN, runBI]; (conv in (FnI.body f_Ratio_is_zero) => whnf); simp (decide := true) [hot_glob, hotK, cls_int, cls_bool, cls_str, cls_list, cls_tuple, cls_own, sc_calm, sc_top, sc_lk, sc_N, lk_kind, lk_hasM, lk_hasO, lk_isC, lk_isF, lk_exm, lk_rm, lk_call, hot_slot, hot_tslot, hot_calm, hot_top, bind_ok, bind_ex, bind_no, so_ok, so_ex, so_no, dat_ok, dat_ex, dat_no, pu_ok, pu_ex, pu_no, of_some, of_none, sb_nx, sb_rt, sb_bk, sb_ct, sb_ex, sb_no, oc_ret, oc_ex, ocD_ret, ocD_ex, setSl_pu, setSl_fr, dat_pu, dat_fr, flatV, flatD, runB, runBN, runBI, FnI.start, modI, binI, cmpI, imp2, evSs, evS, evE, evEs, evB, evT, evTs, evHd, evTl, evE1, evLL, evI, evIf, evG, evTg, evH, callN, iterN, noStar, notSet, notComp, notSl, plainO, ownV, isaD, tyOf, knownT, isaT, boolD, intOf, strOf, seqOf, opB, opC, negD, scal, Sf.isNon, hndN, isExcK, isStrK, tgNs, tgOf, setTg, itemD, bltC, blt1, blt2, knB, imp2, listD, opN, cmpI, Lk.knows, isOw, lineOk, isTupE, isLT, look_cons, eqO_ii, eqO_bb, eqO_ss, eqO_in, eqO_ni, eqO_ins, eqO_tup, isRev, revD, rat]
theorem rq_ok (a b : Int) : (evD T (n + 1)).fn "_require_ratio" [rat a b] = .ret (.pu dN) := by
  rw [cf__require_ratio]; simp only [runB, runBN, runBI]; (conv in (FnI.body f__require_ratio) => whnf); simp (decide := true) [hot_glob, hotK, cls_int, cls_bool, cls_str, cls_list, cls_tuple, cls_own, sc_calm, sc_top, sc_lk, sc_N, lk_kind, lk_hasM, lk_hasO, lk_isC, lk_isF, lk_exm, lk_rm, lk_call, hot_slot, hot_tslot, hot_calm, hot_top, bind_ok, bind_ex, bind_no, so_ok, so_ex, so_no, dat_ok, dat_ex, dat_no, pu_ok, pu_ex, pu_no, of_some, of_none, sb_nx, sb_rt, sb_bk, sb_ct, sb_ex, sb_no, oc_ret, oc_ex, ocD_ret, ocD_ex, setSl_pu, setSl_fr, dat_pu, dat_fr, flatV, flatD, runB, runBN, runBI, FnI.start, modI, binI, cmpI, imp2, evSs, evS, evE, evEs, evB, evT, evTs, evHd, evTl, evE1, evLL, evI, evIf, evG, evTg, evH, callN, iterN, noStar, notSet, notComp, notSl, plainO, ownV, isaD, tyOf, knownT, isaT, boolD, intOf, strOf, seqOf, opB, opC, negD, scal, Sf.isNon, hndN, isExcK, isStrK, tgNs, tgOf, setTg, itemD, bltC, blt1, blt2, knB, imp2, listD, opN, cmpI, Lk.knows, isOw, lineOk, isTupE, isLT, look_cons, eqO_ii, eqO_bb, eqO_ss, eqO_in, eqO_ni, eqO_ins, eqO_tup, isRev, revD, rat]
theorem mulG_lt {s t : Nat} {i j : Int} (hi : i.natAbs < 2 ^ s) (hj : j.natAbs < 2 ^ t) (h : s + t < 1000000) : mulG i j = true := by
  have l : ∀ {x k : Nat}, x < 2 ^ k → x.log2 ≤ k := fun {x k} hx => by
    by_cases h0 : x = 0
    · subst h0; simp
    · exact Nat.le_of_lt ((Nat.log2_lt h0).mpr hx)
  unfold mulG
  exact decide_eq_true (by have := l hi; have := l hj; omega)
def rq (q : Rat) : Dat := rat q.num q.den
theorem rat_norm (i : Int) (d : Nat) (h : d ≠ 0) (hd : d < 2 ^ 8500) : (evD T (n + 1)).mkI "Ratio" [dI i, dI (d : Int)] = .ret (.pu (rq (Rat.normalize i d h))) := by
  rw [rat_mk n i d (by omega) (by rw [Int.natAbs_natCast]; exact hd)]
  unfold rq
  rw [Pq.norm_num, Pq.norm_den, Int.natAbs_natCast]
  congr 3
theorem rq_add {s t : Nat} {a b : Rat} (ha : Pq.Sz s a) (hb : Pq.Sz t b) (h : s + t ≤ 8500) : (evD T (n + 2)).mt "Ratio" "__add__" [rq a, rq b] = .ret (.pu (rq (a + b))) := by
  have l := rq_ok n b.num b.den
  have m1 : mulG a.num b.den = true := mulG_lt ha.1 (by rw [Int.natAbs_natCast]; exact hb.2) (by omega)
  have m2 : mulG b.num a.den = true := mulG_lt hb.1 (by rw [Int.natAbs_natCast]; exact ha.2) (by omega)
  have m3 : mulG (a.den : Int) b.den = true := mulG_lt (by rw [Int.natAbs_natCast]; exact ha.2) (by rw [Int.natAbs_natCast]; exact hb.2) (by omega)
  have m := rat_norm n (a.num * b.den + b.num * a.den) (a.den * b.den) (Nat.mul_ne_zero a.den_nz b.den_nz) (Nat.lt_of_lt_of_le (Pq.dens ha hb) (Nat.pow_le_pow_right (by decide) h))
  rw [Int.natCast_mul] at m
  rw [Rat.add_def]
  generalize Rat.normalize _ _ _ = q at m ⊢
  clear ha hb
  unfold rq rat at m ⊢
  unfold rat at l
  rw [cf_Ratiou_addu]; simp only [runB, runBN, runBI]; (conv in (FnI.body f_Ratiou_addu) => whnf); simp (decide := true) [hot_glob, hotK, cls_int, cls_bool, cls_str, cls_list, cls_tuple, cls_own, sc_calm, sc_top, sc_lk, sc_N, lk_kind, lk_hasM, lk_hasO, lk_isC, lk_isF, lk_exm, lk_rm, lk_call, hot_slot, hot_tslot, hot_calm, hot_top, bind_ok, bind_ex, bind_no, so_ok, so_ex, so_no, dat_ok, dat_ex, dat_no, pu_ok, pu_ex, pu_no, of_some, of_none, sb_nx, sb_rt, sb_bk, sb_ct, sb_ex, sb_no, oc_ret, oc_ex, ocD_ret, ocD_ex, setSl_pu, setSl_fr, dat_pu, dat_fr, flatV, flatD, runB, runBN, runBI, FnI.start, modI, binI, cmpI, imp2, evSs, evS, evE, evEs, evB, evT, evTs, evHd, evTl, evE1, evLL, evI, evIf, evG, evTg, evH, callN, iterN, noStar, notSet, notComp, notSl, plainO, ownV, isaD, tyOf, knownT, isaT, boolD, intOf, strOf, seqOf, opB, opC, negD, scal, Sf.isNon, hndN, isExcK, isStrK, tgNs, tgOf, setTg, itemD, bltC, blt1, blt2, knB, imp2, listD, opN, cmpI, Lk.knows, isOw, lineOk, isTupE, isLT, look_cons, eqO_ii, eqO_bb, eqO_ss, eqO_in, eqO_ni, eqO_ins, eqO_tup, isRev, revD, l, m1, m2, m3, m]
theorem rq_sub {s t : Nat} {a b : Rat} (ha : Pq.Sz s a) (hb : Pq.Sz t b) (h : s + t ≤ 8500) : (evD T (n + 2)).mt "Ratio" "__sub__" [rq a, rq b] = .ret (.pu (rq (a - b))) := by
  have l := rq_ok n b.num b.den
  have m1 : mulG a.num b.den = true := mulG_lt ha.1 (by rw [Int.natAbs_natCast]; exact hb.2) (by omega)
  have m2 : mulG b.num a.den = true := mulG_lt hb.1 (by rw [Int.natAbs_natCast]; exact ha.2) (by omega)
  have m3 : mulG (a.den : Int) b.den = true := mulG_lt (by rw [Int.natAbs_natCast]; exact ha.2) (by rw [Int.natAbs_natCast]; exact hb.2) (by omega)
  have m := rat_norm n (a.num * b.den - b.num * a.den) (a.den * b.den) (Nat.mul_ne_zero a.den_nz b.den_nz) (Nat.lt_of_lt_of_le (Pq.dens ha hb) (Nat.pow_le_pow_right (by decide) h))
  rw [Int.natCast_mul] at m
  rw [Rat.sub_def]
  generalize Rat.normalize _ _ _ = q at m ⊢
  clear ha hb
  unfold rq rat at m ⊢
  unfold rat at l
  rw [cf_Ratiou_subu]; simp only [runB, runBN, runBI]; (conv in (FnI.body f_Ratiou_subu) => whnf); simp (decide := true) [hot_glob, hotK, cls_int, cls_bool, cls_str, cls_list, cls_tuple, cls_own, sc_calm, sc_top, sc_lk, sc_N, lk_kind, lk_hasM, lk_hasO, lk_isC, lk_isF, lk_exm, lk_rm, lk_call, hot_slot, hot_tslot, hot_calm, hot_top, bind_ok, bind_ex, bind_no, so_ok, so_ex, so_no, dat_ok, dat_ex, dat_no, pu_ok, pu_ex, pu_no, of_some, of_none, sb_nx, sb_rt, sb_bk, sb_ct, sb_ex, sb_no, oc_ret, oc_ex, ocD_ret, ocD_ex, setSl_pu, setSl_fr, dat_pu, dat_fr, flatV, flatD, runB, runBN, runBI, FnI.start, modI, binI, cmpI, imp2, evSs, evS, evE, evEs, evB, evT, evTs, evHd, evTl, evE1, evLL, evI, evIf, evG, evTg, evH, callN, iterN, noStar, notSet, notComp, notSl, plainO, ownV, isaD, tyOf, knownT, isaT, boolD, intOf, strOf, seqOf, opB, opC, negD, scal, Sf.isNon, hndN, isExcK, isStrK, tgNs, tgOf, setTg, itemD, bltC, blt1, blt2, knB, imp2, listD, opN, cmpI, Lk.knows, isOw, lineOk, isTupE, isLT, look_cons, eqO_ii, eqO_bb, eqO_ss, eqO_in, eqO_ni, eqO_ins, eqO_tup, isRev, revD, l, m1, m2, m3, m]
theorem rq_mul {s t : Nat} {a b : Rat} (ha : Pq.Sz s a) (hb : Pq.Sz t b) (h : s + t ≤ 8500) : (evD T (n + 2)).mt "Ratio" "__mul__" [rq a, rq b] = .ret (.pu (rq (a * b))) := by
  have l := rq_ok n b.num b.den
  have m1 : mulG a.num b.num = true := mulG_lt ha.1 hb.1 (by omega)
  have m3 : mulG (a.den : Int) b.den = true := mulG_lt (by rw [Int.natAbs_natCast]; exact ha.2) (by rw [Int.natAbs_natCast]; exact hb.2) (by omega)
  have m := rat_norm n (a.num * b.num) (a.den * b.den) (Nat.mul_ne_zero a.den_nz b.den_nz) (Nat.lt_of_lt_of_le (Pq.dens ha hb) (Nat.pow_le_pow_right (by decide) h))
  rw [Int.natCast_mul] at m
  rw [Rat.mul_def]
  generalize Rat.normalize _ _ _ = q at m ⊢
  clear ha hb
  unfold rq rat at m ⊢
  unfold rat at l
  rw [cf_Ratiou_mulu]; simp only [runB, runBN, runBI]; (conv in (FnI.body f_Ratiou_mulu) => whnf); simp (decide := true) [hot_glob, hotK, cls_int, cls_bool, cls_str, cls_list, cls_tuple, cls_own, sc_calm, sc_top, sc_lk, sc_N, lk_kind, lk_hasM, lk_hasO, lk_isC, lk_isF, lk_exm, lk_rm, lk_call, hot_slot, hot_tslot, hot_calm, hot_top, bind_ok, bind_ex, bind_no, so_ok, so_ex, so_no, dat_ok, dat_ex, dat_no, pu_ok, pu_ex, pu_no, of_some, of_none, sb_nx, sb_rt, sb_bk, sb_ct, sb_ex, sb_no, oc_ret, oc_ex, ocD_ret, ocD_ex, setSl_pu, setSl_fr, dat_pu, dat_fr, flatV, flatD, runB, runBN, runBI, FnI.start, modI, binI, cmpI, imp2, evSs, evS, evE, evEs, evB, evT, evTs, evHd, evTl, evE1, evLL, evI, evIf, evG, evTg, evH, callN, iterN, noStar, notSet, notComp, notSl, plainO, ownV, isaD, tyOf, knownT, isaT, boolD, intOf, strOf, seqOf, opB, opC, negD, scal, Sf.isNon, hndN, isExcK, isStrK, tgNs, tgOf, setTg, itemD, bltC, blt1, blt2, knB, imp2, listD, opN, cmpI, Lk.knows, isOw, lineOk, isTupE, isLT, look_cons, eqO_ii, eqO_bb, eqO_ss, eqO_in, eqO_ni, eqO_ins, eqO_tup, isRev, revD, l, m1, m3, m]
theorem rq_inv {s : Nat} {a : Rat} (ha : Pq.Sz s a) (h0 : a ≠ 0) (h : s ≤ 8500) : (evD T (n + 2)).mt "Ratio" "inverse" [rq a] = .ret (.pu (rq a⁻¹)) := by
  have hn : a.num ≠ 0 := fun z => h0 (Rat.num_eq_zero.mp z)
  have hr : Nat.gcd (a.den : Int).natAbs a.num.natAbs = 1 := by rw [Int.natAbs_natCast, Nat.gcd_comm]; exact a.reduced
  have m : (evD T (n + 1)).mkI "Ratio" [dI a.den, dI a.num] = .ret (.pu (rq a⁻¹)) := by
    unfold rq
    rw [Rat.num_inv, Rat.den_inv, if_neg hn]
    by_cases hp : 0 < a.num
    · rw [rat_mk n a.den a.num hp (Nat.lt_of_lt_of_le ha.1 (Nat.pow_le_pow_right (by decide) h)), hr, Int.sign_eq_one_of_pos hp]
      congr 3 <;> simp <;> omega
    · rw [rat_mkN n a.den a.num (by omega) hr, Int.sign_eq_neg_one_of_neg (by omega)]
      congr 3 <;> omega
  generalize a⁻¹ = q at m ⊢
  clear ha hr
  unfold rq rat at m ⊢
  rw [cf_Ratio_inverse]; simp only [runB, runBN, runBI]; (conv in (FnI.body f_Ratio_inverse) => whnf); simp (decide := true) [hot_glob, hotK, cls_int, cls_bool, cls_str, cls_list, cls_tuple, cls_own, sc_calm, sc_top, sc_lk, sc_N, lk_kind, lk_hasM, lk_hasO, lk_isC, lk_isF, lk_exm, lk_rm, lk_call, hot_slot, hot_tslot, hot_calm, hot_top, bind_ok, bind_ex, bind_no, so_ok, so_ex, so_no, dat_ok, dat_ex, dat_no, pu_ok, pu_ex, pu_no, of_some, of_none, sb_nx, sb_rt, sb_bk, sb_ct, sb_ex, sb_no, oc_ret, oc_ex, ocD_ret, ocD_ex, setSl_pu, setSl_fr, dat_pu, dat_fr, flatV, flatD, runB, runBN, runBI, FnI.start, modI, binI, cmpI, imp2, evSs, evS, evE, evEs, evB, evT, evTs, evHd, evTl, evE1, evLL, evI, evIf, evG, evTg, evH, callN, iterN, noStar, notSet, notComp, notSl, plainO, ownV, isaD, tyOf, knownT, isaT, boolD, intOf, strOf, seqOf, opB, opC, negD, scal, Sf.isNon, hndN, isExcK, isStrK, tgNs, tgOf, setTg, itemD, bltC, blt1, blt2, knB, imp2, listD, opN, cmpI, Lk.knows, isOw, lineOk, isTupE, isLT, look_cons, eqO_ii, eqO_bb, eqO_ss, eqO_in, eqO_ni, eqO_ins, eqO_tup, isRev, revD, m]
theorem rq_eq (a b : Rat) : (evD T (n + 1)).mt "Ratio" "__eq__" [rq a, rq b] = .ret (.pu (dB (decide (a = b)))) := by
  unfold rq
  rw [rat_eq]
  congr 3
  rw [← Bool.decide_and]
  exact decide_eq_decide.mpr ⟨fun h => Rat.ext h.1 (by omega), fun h => by rw [h]; exact ⟨rfl, rfl⟩⟩
theorem rq_isz (a : Rat) : (evD T (n + 1)).mt "Ratio" "is_zero" [rq a] = .ret (.pu (dB (decide (a = 0)))) := by
  unfold rq
  rw [rat_isz]
  congr 3
  exact decide_eq_decide.mpr Rat.num_eq_zero
/-! ### grounds -/
theorem gnd_mk0 : (evD T (n + 3)).mkI "Ground" [dI 0] = .ret (.pu (gnd 0)) := by
  rw [cf_Groundu_initu]; simp only [runB, runBN, runBI]; (conv in (FnI.body f_Groundu_initu) => whnf); simp (decide := true) [hot_glob, hotK, cls_int, cls_bool, cls_str, cls_list, cls_tuple, cls_own, sc_calm, sc_top, sc_lk, sc_N, lk_kind, lk_hasM, lk_hasO, lk_isC, lk_isF, lk_exm, lk_rm, lk_call, hot_slot, hot_tslot, hot_calm, hot_top, bind_ok, bind_ex, bind_no, so_ok, so_ex, so_no, dat_ok, dat_ex, dat_no, pu_ok, pu_ex, pu_no, of_some, of_none, sb_nx, sb_rt, sb_bk, sb_ct, sb_ex, sb_no, oc_ret, oc_ex, ocD_ret, ocD_ex, setSl_pu, setSl_fr, dat_pu, dat_fr, flatV, flatD, runB, runBN, runBI, FnI.start, modI, binI, cmpI, imp2, evSs, evS, evE, evEs, evB, evT, evTs, evHd, evTl, evE1, evLL, evI, evIf, evG, evTg, evH, callN, iterN, noStar, notSet, notComp, notSl, plainO, ownV, isaD, tyOf, knownT, isaT, boolD, intOf, strOf, seqOf, opB, opC, negD, scal, Sf.isNon, hndN, isExcK, isStrK, tgNs, tgOf, setTg, itemD, bltC, blt1, blt2, knB, imp2, listD, opN, cmpI, Lk.knows, isOw, lineOk, isTupE, isLT, look_cons, eqO_ii, eqO_bb, eqO_ss, eqO_in, eqO_ni, eqO_ins, eqO_tup, isRev, revD, int_i, gnd]
theorem gnd_mkd : (evD T (n + 3)).mkI "Ground" [] = .ret (.pu (gnd 0)) := by
  have e : (evD T (n + 3)).mkI "Ground" [] = (evD T (n + 3)).mkI "Ground" [dI 0] := by rw [cf_Groundu_initu_0, cf_Groundu_initu]
  rw [e]; exact gnd_mk0 n
theorem gnd_mk (p : Int) (hp : memD (.int p) PR = true) (h0 : 0 < p) : (evD T (n + 3)).mkI "Ground" [dI p] = .ret (.pu (gnd p)) := by
  have : ¬ p = 0 := by omega
  rw [cf_Groundu_initu]; simp only [runB, runBN, runBI]; (conv in (FnI.body f_Groundu_initu) => whnf); simp (decide := true) [hot_glob, hotK, cls_int, cls_bool, cls_str, cls_list, cls_tuple, cls_own, sc_calm, sc_top, sc_lk, sc_N, lk_kind, lk_hasM, lk_hasO, lk_isC, lk_isF, lk_exm, lk_rm, lk_call, hot_slot, hot_tslot, hot_calm, hot_top, bind_ok, bind_ex, bind_no, so_ok, so_ex, so_no, dat_ok, dat_ex, dat_no, pu_ok, pu_ex, pu_no, of_some, of_none, sb_nx, sb_rt, sb_bk, sb_ct, sb_ex, sb_no, oc_ret, oc_ex, ocD_ret, ocD_ex, setSl_pu, setSl_fr, dat_pu, dat_fr, flatV, flatD, runB, runBN, runBI, FnI.start, modI, binI, cmpI, imp2, evSs, evS, evE, evEs, evB, evT, evTs, evHd, evTl, evE1, evLL, evI, evIf, evG, evTg, evH, callN, iterN, noStar, notSet, notComp, notSl, plainO, ownV, isaD, tyOf, knownT, isaT, boolD, intOf, strOf, seqOf, opB, opC, negD, scal, Sf.isNon, hndN, isExcK, isStrK, tgNs, tgOf, setTg, itemD, bltC, blt1, blt2, knB, imp2, listD, opN, cmpI, Lk.knows, isOw, lineOk, isTupE, isLT, look_cons, eqO_ii, eqO_bb, eqO_ss, eqO_in, eqO_ni, eqO_ins, eqO_tup, isRev, revD, int_i, prime_i, hp, this, gnd]
theorem num0 (i : Int) : (evD T (n + 2)).mt "Ground" "number" [gnd 0, dI i] = .ret (.pu (rq (i : Rat))) := by
  have m := rat_mk n i 1 (by decide) (Nat.lt_of_lt_of_le (by decide : (1 : Int).natAbs < 2 ^ 1) (Nat.pow_le_pow_right (by decide) (by decide)))
  have e : rq (i : Rat) = rat i 1 := by unfold rq; rw [Rat.num_intCast, Rat.den_intCast]; rfl
  have e1 : Nat.gcd i.natAbs (1 : Int).natAbs = 1 := Nat.gcd_one_right _
  rw [e1] at m
  rw [e]
  have e2 : i / ((1 : Nat) : Int) = i := by simp
  have e3 : (1 : Int) / ((1 : Nat) : Int) = 1 := by simp
  rw [e2, e3] at m
  rw [cf_Ground_number_2]; simp only [runB, runBN, runBI]; (conv in (FnI.body f_Ground_number) => whnf); simp (decide := true) [hot_glob, hotK, cls_int, cls_bool, cls_str, cls_list, cls_tuple, cls_own, sc_calm, sc_top, sc_lk, sc_N, lk_kind, lk_hasM, lk_hasO, lk_isC, lk_isF, lk_exm, lk_rm, lk_call, hot_slot, hot_tslot, hot_calm, hot_top, bind_ok, bind_ex, bind_no, so_ok, so_ex, so_no, dat_ok, dat_ex, dat_no, pu_ok, pu_ex, pu_no, of_some, of_none, sb_nx, sb_rt, sb_bk, sb_ct, sb_ex, sb_no, oc_ret, oc_ex, ocD_ret, ocD_ex, setSl_pu, setSl_fr, dat_pu, dat_fr, flatV, flatD, runB, runBN, runBI, FnI.start, modI, binI, cmpI, imp2, evSs, evS, evE, evEs, evB, evT, evTs, evHd, evTl, evE1, evLL, evI, evIf, evG, evTg, evH, callN, iterN, noStar, notSet, notComp, notSl, plainO, ownV, isaD, tyOf, knownT, isaT, boolD, intOf, strOf, seqOf, opB, opC, negD, scal, Sf.isNon, hndN, isExcK, isStrK, tgNs, tgOf, setTg, itemD, bltC, blt1, blt2, knB, imp2, listD, opN, cmpI, Lk.knows, isOw, lineOk, isTupE, isLT, look_cons, eqO_ii, eqO_bb, eqO_ss, eqO_in, eqO_ni, eqO_ins, eqO_tup, isRev, revD, gnd, m]
theorem num1 (p i : Int) (hp : memD (.int p) PR = true) (h0 : 0 < p) : (evD T (n + 4)).mt "Ground" "number" [gnd p, dI i] = .ret (.pu (res p (i % p))) := by
  have m := res_mk n p i hp h0
  have h : ¬ p = 0 := by omega
  rw [cf_Ground_number_2]; simp only [runB, runBN, runBI]; (conv in (FnI.body f_Ground_number) => whnf); simp (decide := true) [hot_glob, hotK, cls_int, cls_bool, cls_str, cls_list, cls_tuple, cls_own, sc_calm, sc_top, sc_lk, sc_N, lk_kind, lk_hasM, lk_hasO, lk_isC, lk_isF, lk_exm, lk_rm, lk_call, hot_slot, hot_tslot, hot_calm, hot_top, bind_ok, bind_ex, bind_no, so_ok, so_ex, so_no, dat_ok, dat_ex, dat_no, pu_ok, pu_ex, pu_no, of_some, of_none, sb_nx, sb_rt, sb_bk, sb_ct, sb_ex, sb_no, oc_ret, oc_ex, ocD_ret, ocD_ex, setSl_pu, setSl_fr, dat_pu, dat_fr, flatV, flatD, runB, runBN, runBI, FnI.start, modI, binI, cmpI, imp2, evSs, evS, evE, evEs, evB, evT, evTs, evHd, evTl, evE1, evLL, evI, evIf, evG, evTg, evH, callN, iterN, noStar, notSet, notComp, notSl, plainO, ownV, isaD, tyOf, knownT, isaT, boolD, intOf, strOf, seqOf, opB, opC, negD, scal, Sf.isNon, hndN, isExcK, isStrK, tgNs, tgOf, setTg, itemD, bltC, blt1, blt2, knB, imp2, listD, opN, cmpI, Lk.knows, isOw, lineOk, isTupE, isLT, look_cons, eqO_ii, eqO_bb, eqO_ss, eqO_in, eqO_ni, eqO_ins, eqO_tup, isRev, revD, gnd, m, h]
theorem zero_ (p : Int) : (evD T (n + 2)).mt "Ground" "zero" [gnd p] = (evD T (n + 1)).mt "Ground" "number" [gnd p, dI 0] := by
  rw [cf_Ground_zero]; simp only [runB, runBN, runBI]; (conv in (FnI.body f_Ground_zero) => whnf); simp (decide := true) [hot_glob, hotK, cls_int, cls_bool, cls_str, cls_list, cls_tuple, cls_own, sc_calm, sc_top, sc_lk, sc_N, lk_kind, lk_hasM, lk_hasO, lk_isC, lk_isF, lk_exm, lk_rm, lk_call, hot_slot, hot_tslot, hot_calm, hot_top, bind_ok, bind_ex, bind_no, so_ok, so_ex, so_no, dat_ok, dat_ex, dat_no, pu_ok, pu_ex, pu_no, of_some, of_none, sb_nx, sb_rt, sb_bk, sb_ct, sb_ex, sb_no, oc_ret, oc_ex, ocD_ret, ocD_ex, setSl_pu, setSl_fr, dat_pu, dat_fr, flatV, flatD, runB, runBN, runBI, FnI.start, modI, binI, cmpI, imp2, evSs, evS, evE, evEs, evB, evT, evTs, evHd, evTl, evE1, evLL, evI, evIf, evG, evTg, evH, callN, iterN, noStar, notSet, notComp, notSl, plainO, ownV, isaD, tyOf, knownT, isaT, boolD, intOf, strOf, seqOf, opB, opC, negD, scal, Sf.isNon, hndN, isExcK, isStrK, tgNs, tgOf, setTg, itemD, bltC, blt1, blt2, knB, imp2, listD, opN, cmpI, Lk.knows, isOw, lineOk, isTupE, isLT, look_cons, eqO_ii, eqO_bb, eqO_ss, eqO_in, eqO_ni, eqO_ins, eqO_tup, isRev, revD, gnd]
  cases (evD T (n + 1)).mt "Ground" "number" [.ins "Ground" ["p"] [dI p], dI 0] <;> rfl
theorem one_ (p : Int) : (evD T (n + 2)).mt "Ground" "one" [gnd p] = (evD T (n + 1)).mt "Ground" "number" [gnd p, dI 1] := by
  rw [cf_Ground_one]; simp only [runB, runBN, runBI]; (conv in (FnI.body f_Ground_one) => whnf); simp (decide := true) [hot_glob, hotK, cls_int, cls_bool, cls_str, cls_list, cls_tuple, cls_own, sc_calm, sc_top, sc_lk, sc_N, lk_kind, lk_hasM, lk_hasO, lk_isC, lk_isF, lk_exm, lk_rm, lk_call, hot_slot, hot_tslot, hot_calm, hot_top, bind_ok, bind_ex, bind_no, so_ok, so_ex, so_no, dat_ok, dat_ex, dat_no, pu_ok, pu_ex, pu_no, of_some, of_none, sb_nx, sb_rt, sb_bk, sb_ct, sb_ex, sb_no, oc_ret, oc_ex, ocD_ret, ocD_ex, setSl_pu, setSl_fr, dat_pu, dat_fr, flatV, flatD, runB, runBN, runBI, FnI.start, modI, binI, cmpI, imp2, evSs, evS, evE, evEs, evB, evT, evTs, evHd, evTl, evE1, evLL, evI, evIf, evG, evTg, evH, callN, iterN, noStar, notSet, notComp, notSl, plainO, ownV, isaD, tyOf, knownT, isaT, boolD, intOf, strOf, seqOf, opB, opC, negD, scal, Sf.isNon, hndN, isExcK, isStrK, tgNs, tgOf, setTg, itemD, bltC, blt1, blt2, knB, imp2, listD, opN, cmpI, Lk.knows, isOw, lineOk, isTupE, isLT, look_cons, eqO_ii, eqO_bb, eqO_ss, eqO_in, eqO_ni, eqO_ins, eqO_tup, isRev, revD, gnd]
  cases (evD T (n + 1)).mt "Ground" "number" [.ins "Ground" ["p"] [dI p], dI 1] <;> rfl
theorem mem_q (a b : Int) : (evD T (n + 1)).mt "Ground" "is_member" [gnd 0, rat a b] = .ret (.pu (dB true)) := by
  rw [cf_Ground_is_member]; simp only [runB, runBN, runBI]; (conv in (FnI.body f_Ground_is_member) => whnf); simp (decide := true) [hot_glob, hotK, cls_int, cls_bool, cls_str, cls_list, cls_tuple, cls_own, sc_calm, sc_top, sc_lk, sc_N, lk_kind, lk_hasM, lk_hasO, lk_isC, lk_isF, lk_exm, lk_rm, lk_call, hot_slot, hot_tslot, hot_calm, hot_top, bind_ok, bind_ex, bind_no, so_ok, so_ex, so_no, dat_ok, dat_ex, dat_no, pu_ok, pu_ex, pu_no, of_some, of_none, sb_nx, sb_rt, sb_bk, sb_ct, sb_ex, sb_no, oc_ret, oc_ex, ocD_ret, ocD_ex, setSl_pu, setSl_fr, dat_pu, dat_fr, flatV, flatD, runB, runBN, runBI, FnI.start, modI, binI, cmpI, imp2, evSs, evS, evE, evEs, evB, evT, evTs, evHd, evTl, evE1, evLL, evI, evIf, evG, evTg, evH, callN, iterN, noStar, notSet, notComp, notSl, plainO, ownV, isaD, tyOf, knownT, isaT, boolD, intOf, strOf, seqOf, opB, opC, negD, scal, Sf.isNon, hndN, isExcK, isStrK, tgNs, tgOf, setTg, itemD, bltC, blt1, blt2, knB, imp2, listD, opN, cmpI, Lk.knows, isOw, lineOk, isTupE, isLT, look_cons, eqO_ii, eqO_bb, eqO_ss, eqO_in, eqO_ni, eqO_ins, eqO_tup, isRev, revD, gnd, rat]
theorem mem_r (p a : Int) (h : p ≠ 0) : (evD T (n + 1)).mt "Ground" "is_member" [gnd p, res p a] = .ret (.pu (dB true)) := by
  rw [cf_Ground_is_member]; simp only [runB, runBN, runBI]; (conv in (FnI.body f_Ground_is_member) => whnf); simp (decide := true) [hot_glob, hotK, cls_int, cls_bool, cls_str, cls_list, cls_tuple, cls_own, sc_calm, sc_top, sc_lk, sc_N, lk_kind, lk_hasM, lk_hasO, lk_isC, lk_isF, lk_exm, lk_rm, lk_call, hot_slot, hot_tslot, hot_calm, hot_top, bind_ok, bind_ex, bind_no, so_ok, so_ex, so_no, dat_ok, dat_ex, dat_no, pu_ok, pu_ex, pu_no, of_some, of_none, sb_nx, sb_rt, sb_bk, sb_ct, sb_ex, sb_no, oc_ret, oc_ex, ocD_ret, ocD_ex, setSl_pu, setSl_fr, dat_pu, dat_fr, flatV, flatD, runB, runBN, runBI, FnI.start, modI, binI, cmpI, imp2, evSs, evS, evE, evEs, evB, evT, evTs, evHd, evTl, evE1, evLL, evI, evIf, evG, evTg, evH, callN, iterN, noStar, notSet, notComp, notSl, plainO, ownV, isaD, tyOf, knownT, isaT, boolD, intOf, strOf, seqOf, opB, opC, negD, scal, Sf.isNon, hndN, isExcK, isStrK, tgNs, tgOf, setTg, itemD, bltC, blt1, blt2, knB, imp2, listD, opN, cmpI, Lk.knows, isOw, lineOk, isTupE, isLT, look_cons, eqO_ii, eqO_bb, eqO_ss, eqO_in, eqO_ni, eqO_ins, eqO_tup, isRev, revD, gnd, res, h]
theorem gnd_eq (p q : Int) : (evD T (n + 1)).mt "Ground" "__eq__" [gnd p, gnd q] = .ret (.pu (dB (decide (p = q)))) := by
  rw [cf_Groundu_equ]; simp only [runB, runBN, runBI]; (conv in (FnI.body f_Groundu_equ) => whnf); simp (decide := true) [hot_glob, hotK, cls_int, cls_bool, cls_str, cls_list, cls_tuple, cls_own, sc_calm, sc_top, sc_lk, sc_N, lk_kind, lk_hasM, lk_hasO, lk_isC, lk_isF, lk_exm, lk_rm, lk_call, hot_slot, hot_tslot, hot_calm, hot_top, bind_ok, bind_ex, bind_no, so_ok, so_ex, so_no, dat_ok, dat_ex, dat_no, pu_ok, pu_ex, pu_no, of_some, of_none, sb_nx, sb_rt, sb_bk, sb_ct, sb_ex, sb_no, oc_ret, oc_ex, ocD_ret, ocD_ex, setSl_pu, setSl_fr, dat_pu, dat_fr, flatV, flatD, runB, runBN, runBI, FnI.start, modI, binI, cmpI, imp2, evSs, evS, evE, evEs, evB, evT, evTs, evHd, evTl, evE1, evLL, evI, evIf, evG, evTg, evH, callN, iterN, noStar, notSet, notComp, notSl, plainO, ownV, isaD, tyOf, knownT, isaT, boolD, intOf, strOf, seqOf, opB, opC, negD, scal, Sf.isNon, hndN, isExcK, isStrK, tgNs, tgOf, setTg, itemD, bltC, blt1, blt2, knB, imp2, listD, opN, cmpI, Lk.knows, isOw, lineOk, isTupE, isLT, look_cons, eqO_ii, eqO_bb, eqO_ss, eqO_in, eqO_ni, eqO_ins, eqO_tup, isRev, revD, gnd]
theorem tk_mem (p : Int) (d : Dat) (h : (evD T (n + 1)).mt "Ground" "is_member" [gnd p, d] = .ret (.pu (dB true))) : (evD T (n + 2)).fn "taken" [gnd p, d] = .ret (.pu d) := by
  unfold gnd at h
  rw [cf_taken]; simp only [runB, runBN, runBI]; (conv in (FnI.body f_taken) => whnf); simp (decide := true) [hot_glob, hotK, cls_int, cls_bool, cls_str, cls_list, cls_tuple, cls_own, sc_calm, sc_top, sc_lk, sc_N, lk_kind, lk_hasM, lk_hasO, lk_isC, lk_isF, lk_exm, lk_rm, lk_call, hot_slot, hot_tslot, hot_calm, hot_top, bind_ok, bind_ex, bind_no, so_ok, so_ex, so_no, dat_ok, dat_ex, dat_no, pu_ok, pu_ex, pu_no, of_some, of_none, sb_nx, sb_rt, sb_bk, sb_ct, sb_ex, sb_no, oc_ret, oc_ex, ocD_ret, ocD_ex, setSl_pu, setSl_fr, dat_pu, dat_fr, flatV, flatD, runB, runBN, runBI, FnI.start, modI, binI, cmpI, imp2, evSs, evS, evE, evEs, evB, evT, evTs, evHd, evTl, evE1, evLL, evI, evIf, evG, evTg, evH, callN, iterN, noStar, notSet, notComp, notSl, plainO, ownV, isaD, tyOf, knownT, isaT, boolD, intOf, strOf, seqOf, opB, opC, negD, scal, Sf.isNon, hndN, isExcK, isStrK, tgNs, tgOf, setTg, itemD, bltC, blt1, blt2, knB, imp2, listD, opN, cmpI, Lk.knows, isOw, lineOk, isTupE, isLT, look_cons, eqO_ii, eqO_bb, eqO_ss, eqO_in, eqO_ni, eqO_ins, eqO_tup, isRev, revD, gnd, h]
end
end D08
namespace D08
open PySem L2 Sf
/-- numbers of a ground as data: what the program's numbers do -/
structure Gd (α : Type) [Lean.Grind.CommRing α] [DecidableEq α] where
  C : Str
  ks : List Str
  u : α → Dat
  v : α → Dat
  p : Int
  Sz : Nat → α → Prop
  inv : α → α
  nm : Int → α
  isC : T.isC C = true
  hz : T.hasM C "is_zero" = true
  hi : T.hasM C "inverse" = true
  kz : ¬ ("is_zero" : Str) ∈ ks
  ki : ¬ ("inverse" : Str) ∈ ks
  oa : T.hasO C "__add__" 2 = true
  os : T.hasO C "__sub__" 2 = true
  om : T.hasO C "__mul__" 2 = true
  oe : T.hasO C "__eq__" 2 = true
  mono : ∀ {s t x}, Sz s x → s ≤ t → Sz t x
  sz0 : Sz 1 0
  sz1 : Sz 1 1
  szI : ∀ {s a}, Sz s a → a ≠ 0 → Sz s (inv a)
  szA : ∀ {s t a b}, Sz s a → Sz t b → Sz (s + t + 1) (a + b)
  szS : ∀ {s t a b}, Sz s a → Sz t b → Sz (s + t + 1) (a - b)
  szM : ∀ {s t a b}, Sz s a → Sz t b → Sz (s + t) (a * b)
  add : ∀ (n : Nat) {s t a b}, Sz s a → Sz t b → s + t ≤ 8500 → (evD T (n + 6)).mt C "__add__" [.ins C ks [u a, v a], .ins C ks [u b, v b]] = .ret (.pu (.ins C ks [u (a + b), v (a + b)]))
  sub : ∀ (n : Nat) {s t a b}, Sz s a → Sz t b → s + t ≤ 8500 → (evD T (n + 6)).mt C "__sub__" [.ins C ks [u a, v a], .ins C ks [u b, v b]] = .ret (.pu (.ins C ks [u (a - b), v (a - b)]))
  mul : ∀ (n : Nat) {s t a b}, Sz s a → Sz t b → s + t ≤ 8500 → (evD T (n + 6)).mt C "__mul__" [.ins C ks [u a, v a], .ins C ks [u b, v b]] = .ret (.pu (.ins C ks [u (a * b), v (a * b)]))
  isz : ∀ (n : Nat) (a : α), (evD T (n + 6)).mt C "is_zero" [.ins C ks [u a, v a]] = .ret (.pu (dB (decide (a = 0))))
  eqv : ∀ (n : Nat) (a b : α), (evD T (n + 6)).mt C "__eq__" [.ins C ks [u a, v a], .ins C ks [u b, v b]] = .ret (.pu (dB (decide (a = b))))
  iv : ∀ (n : Nat) {s a}, Sz s a → a ≠ 0 → s ≤ 8500 → (evD T (n + 8)).mt C "inverse" [.ins C ks [u a, v a]] = .ret (.pu (.ins C ks [u (inv a), v (inv a)]))
  mi : ∀ a, a ≠ 0 → a * inv a = 1
  ne : (1 : α) ≠ 0
  mem : ∀ (n : Nat) (a : α), (evD T (n + 6)).mt "Ground" "is_member" [.ins "Ground" ["p"] [dI p], .ins C ks [u a, v a]] = .ret (.pu (dB true))
  zero : ∀ (n : Nat), (evD T (n + 6)).mt "Ground" "zero" [.ins "Ground" ["p"] [dI p]] = .ret (.pu (.ins C ks [u 0, v 0]))
  num : ∀ (n : Nat) (i : Int), (evD T (n + 6)).mt "Ground" "number" [.ins "Ground" ["p"] [dI p], dI i] = .ret (.pu (.ins C ks [u (nm i), v (nm i)]))
  szN : ∀ i : Int, i.natAbs ≤ 4 → Sz 3 (nm i)
  one : ∀ (n : Nat), (evD T (n + 6)).mt "Ground" "one" [.ins "Ground" ["p"] [dI p]] = .ret (.pu (.ins C ks [u 1, v 1]))
section
variable {α : Type} [Lean.Grind.CommRing α] [DecidableEq α] (G : Gd α) (n : Nat)
def Gd.D (x : α) : Dat := .ins G.C G.ks [G.u x, G.v x]
/-- a polynomial -/
def pol (l : List α) : Dat := .ins "Poly" ["ground", "row"] [gnd G.p, .tup (l.map G.D)]
theorem tk_ (x : α) : (evD T (n + 7)).fn "taken" [.ins "Ground" ["p"] [dI G.p], .ins G.C G.ks [G.u x, G.v x]] = .ret (.pu (.ins G.C G.ks [G.u x, G.v x])) := tk_mem (n + 5) G.p _ (G.mem n x)
/-- a loop's measure -/
theorem whileGo_inv {tst : List Sl → Oc Bool} {body : List Sl → So} (I : Nat → List Sl → Prop) (Q : List Sl → Prop)
    (step : ∀ k ρ, I k ρ → (∃ ρ2, tst ρ = .ok false ρ2 ∧ Q ρ2) ∨ (∃ k' ρ2 ρ3, k = k' + 1 ∧ tst ρ = .ok true ρ2 ∧ body ρ2 = .nx ρ3 ∧ I k' ρ3)) :
    ∀ m k ρ, k < m → I k ρ → ∃ ρ', whileGo tst body m ρ = .nx ρ' ∧ Q ρ'
  | 0, k, ρ, h, _ => absurd h (by omega)
  | m + 1, k, ρ, h, i => by
    rcases step k ρ i with ⟨ρ2, e, q⟩ | ⟨k', ρ2, ρ3, ek, e1, e2, i'⟩
    · exact ⟨ρ2, by unfold whileGo; rw [e], q⟩
    · obtain ⟨ρ', e, q⟩ := whileGo_inv I Q step m k' ρ3 (by omega) i'
      exact ⟨ρ', by unfold whileGo; rw [e1]; dsimp only; rw [e2]; exact e, q⟩
end
end D08
namespace D08
open PySem L2 Sf Pm
section
variable {α : Type} [Lean.Grind.CommRing α] [DecidableEq α] (G : Gd α) (n : Nat)
/-! ### Poly(ground, row) -/
abbrev wI : Stmt := stAt f_Polyu_initu.body 2
theorem bI : f_Polyu_initu.body = [stAt f_Polyu_initu.body 0, stAt f_Polyu_initu.body 1, .While (whT wI) (whB wI) [] (stP wI), stAt f_Polyu_initu.body 3, stAt f_Polyu_initu.body 4] := by kernel_rfl
def stI (g r : Dat) (ds : List Dat) : List Sl := [.ob "Poly" [] [], .pu g, .pu r, .ow false ds, .no]
theorem tst0 (call : Calls) (g r : Dat) : evT (whT wI) (T.sc f_Polyu_initu call) (stI g r []) (evE (whT wI) (T.sc f_Polyu_initu call) (stI g r [])) = .ok false (stI g r []) := by
  unfold stI; (conv in (whT wI) => whnf); simp (decide := true) [hot_glob, hotK, cls_int, cls_bool, cls_str, cls_list, cls_tuple, cls_own, sc_calm, sc_top, sc_lk, sc_N, lk_kind, lk_hasM, lk_hasO, lk_isC, lk_isF, lk_exm, lk_rm, lk_call, hot_slot, hot_tslot, hot_calm, hot_top, bind_ok, bind_ex, bind_no, so_ok, so_ex, so_no, dat_ok, dat_ex, dat_no, pu_ok, pu_ex, pu_no, of_some, of_none, sb_nx, sb_rt, sb_bk, sb_ct, sb_ex, sb_no, oc_ret, oc_ex, ocD_ret, ocD_ex, setSl_pu, setSl_fr, dat_pu, dat_fr, flatV, flatD, runB, runBN, runBI, FnI.start, modI, binI, cmpI, imp2, evSs, evS, evE, evEs, evB, evT, evTs, evHd, evTl, evE1, evLL, evI, evIf, evG, evTg, evH, callN, iterN, noStar, notSet, notComp, notSl, plainO, ownV, isaD, tyOf, knownT, isaT, boolD, intOf, strOf, seqOf, opB, opC, negD, scal, Sf.isNon, hndN, isExcK, isStrK, tgNs, tgOf, setTg, itemD, bltC, blt1, blt2, knB, imp2, listD, opN, cmpI, Lk.knows, isOw, lineOk, isTupE, isLT, look_cons, eqO_ii, eqO_bb, eqO_ss, eqO_in, eqO_ni, eqO_ins, eqO_tup, isRev, revD]
theorem tst1 (g r : Dat) (l : List α) (x : α) : evT (whT wI) (T.sc f_Polyu_initu (evD T (n + 7))) (stI g r ((l ++ [x]).map G.D)) (evE (whT wI) (T.sc f_Polyu_initu (evD T (n + 7))) (stI g r ((l ++ [x]).map G.D))) = .ok (decide (x = 0)) (stI g r ((l ++ [x]).map G.D)) := by
  have h1 : (0 : Int) < ((l.map G.D).length : Int) + 1 := by omega
  have h2 := ixN_last (l.map G.D).length
  have h3 : (l.map G.D ++ [G.D x])[(l.map G.D).length]? = some (G.D x) := by simp
  have h4 := G.isz (n + 1) x
  have h5 := G.hz
  have h6 := G.kz
  rw [List.map_append]
  simp only [List.map_cons, List.map_nil]
  generalize l.map G.D = ds at *
  unfold Gd.D at *
  unfold stI; (conv in (whT wI) => whnf); simp (decide := true) [hot_glob, hotK, cls_int, cls_bool, cls_str, cls_list, cls_tuple, cls_own, sc_calm, sc_top, sc_lk, sc_N, lk_kind, lk_hasM, lk_hasO, lk_isC, lk_isF, lk_exm, lk_rm, lk_call, hot_slot, hot_tslot, hot_calm, hot_top, bind_ok, bind_ex, bind_no, so_ok, so_ex, so_no, dat_ok, dat_ex, dat_no, pu_ok, pu_ex, pu_no, of_some, of_none, sb_nx, sb_rt, sb_bk, sb_ct, sb_ex, sb_no, oc_ret, oc_ex, ocD_ret, ocD_ex, setSl_pu, setSl_fr, dat_pu, dat_fr, flatV, flatD, runB, runBN, runBI, FnI.start, modI, binI, cmpI, imp2, evSs, evS, evE, evEs, evB, evT, evTs, evHd, evTl, evE1, evLL, evI, evIf, evG, evTg, evH, callN, iterN, noStar, notSet, notComp, notSl, plainO, ownV, isaD, tyOf, knownT, isaT, boolD, intOf, strOf, seqOf, opB, opC, negD, scal, Sf.isNon, hndN, isExcK, isStrK, tgNs, tgOf, setTg, itemD, bltC, blt1, blt2, knB, imp2, listD, opN, cmpI, Lk.knows, isOw, lineOk, isTupE, isLT, look_cons, eqO_ii, eqO_bb, eqO_ss, eqO_in, eqO_ni, eqO_ins, eqO_tup, isRev, revD, h1, h2, h3, h4, h5, h6]
theorem bod1 (g r d : Dat) (ds : List Dat) (call : Calls) : evSs (whB wI) (T.sc f_Polyu_initu call) (stI g r (ds ++ [d])) = .nx (stI g r ds) := by
  have h := popD_last ds d
  unfold stI; (conv in (whB wI) => whnf); simp (decide := true) [hot_glob, hotK, cls_int, cls_bool, cls_str, cls_list, cls_tuple, cls_own, sc_calm, sc_top, sc_lk, sc_N, lk_kind, lk_hasM, lk_hasO, lk_isC, lk_isF, lk_exm, lk_rm, lk_call, hot_slot, hot_tslot, hot_calm, hot_top, bind_ok, bind_ex, bind_no, so_ok, so_ex, so_no, dat_ok, dat_ex, dat_no, pu_ok, pu_ex, pu_no, of_some, of_none, sb_nx, sb_rt, sb_bk, sb_ct, sb_ex, sb_no, oc_ret, oc_ex, ocD_ret, ocD_ex, setSl_pu, setSl_fr, dat_pu, dat_fr, flatV, flatD, runB, runBN, runBI, FnI.start, modI, binI, cmpI, imp2, evSs, evS, evE, evEs, evB, evT, evTs, evHd, evTl, evE1, evLL, evI, evIf, evG, evTg, evH, callN, iterN, noStar, notSet, notComp, notSl, plainO, ownV, isaD, tyOf, knownT, isaT, boolD, intOf, strOf, seqOf, opB, opC, negD, scal, Sf.isNon, hndN, isExcK, isStrK, tgNs, tgOf, setTg, itemD, bltC, blt1, blt2, knB, imp2, listD, opN, cmpI, Lk.knows, isOw, lineOk, isTupE, isLT, look_cons, eqO_ii, eqO_bb, eqO_ss, eqO_in, eqO_ni, eqO_ins, eqO_tup, isRev, revD, ownM, h]
theorem mk_loop (g r : Dat) : ∀ (m : Nat) (l : List α), l.length < m → whileGo (fun ρ => evT (whT wI) (T.sc f_Polyu_initu (evD T (n + 7))) ρ (evE (whT wI) (T.sc f_Polyu_initu (evD T (n + 7))) ρ)) (fun ρ => evSs (whB wI) (T.sc f_Polyu_initu (evD T (n + 7))) ρ) m (stI g r (l.map G.D)) = .nx (stI g r ((trim l).map G.D))
  | 0, l, h => absurd h (by omega)
  | m + 1, l, h => by
    unfold whileGo
    rcases List.eq_nil_or_concat l with rfl | ⟨l', x, rfl⟩
    · rw [List.map_nil, tst0]; rfl
    · simp only [List.concat_eq_append] at h ⊢
      rw [tst1, trim_last]
      by_cases hx : x = 0
      · rw [if_pos hx, decide_eq_true hx]
        dsimp only
        rw [List.map_append, List.map_cons, List.map_nil, bod1]
        exact mk_loop g r m l' (by simp at h; omega)
      · rw [if_neg hx, decide_eq_false hx]

theorem wip5 (a b c : Sl) : wip [a, b, c, .no, .no] [4] = [a, b, c, .no, .no] := rfl
theorem bak5 (a b c : Sl) : bak [a, b, c, .no, .no] [a, b, c, .no, .no] [4] = [a, b, c, .no, .no] := rfl
/-- taken, one by one -/
theorem mk_ (l : List α) (hl : l.length ≤ 1000) : (evD T (n + 8)).mkI "Poly" [.ins "Ground" ["p"] [dI G.p], .lst (l.map G.D)] = .ret (.pu (pol G (trim l))) := by
  have wl := mk_loop G n (.ins "Ground" ["p"] [dI G.p]) (.lst (l.map G.D)) LF l (Nat.lt_of_le_of_lt hl (by decide))
  unfold stI at wl
  have hlen : l.length ≤ 100000 := by omega
  have tk := tk_ G n
  rw [cf_Polyu_initu]; simp only [runB, runBN, runBI]; rw [bI]; (conv in (stAt f_Polyu_initu.body 0) => whnf); (conv in (stAt f_Polyu_initu.body 1) => whnf); (conv in (stAt f_Polyu_initu.body 3) => whnf); (conv in (stAt f_Polyu_initu.body 4) => whnf)
  simp (decide := true) [hot_glob, hotK, cls_int, cls_bool, cls_str, cls_list, cls_tuple, cls_own, sc_calm, sc_top, sc_lk, sc_N, lk_kind, lk_hasM, lk_hasO, lk_isC, lk_isF, lk_exm, lk_rm, lk_call, hot_slot, hot_tslot, hot_calm, hot_top, bind_ok, bind_ex, bind_no, so_ok, so_ex, so_no, dat_ok, dat_ex, dat_no, pu_ok, pu_ex, pu_no, of_some, of_none, sb_nx, sb_rt, sb_bk, sb_ct, sb_ex, sb_no, oc_ret, oc_ex, ocD_ret, ocD_ex, setSl_pu, setSl_fr, dat_pu, dat_fr, flatV, flatD, runB, runBN, runBI, FnI.start, modI, binI, cmpI, imp2, evSs, evS, evE, evEs, evB, evT, evTs, evHd, evTl, evE1, evLL, evI, evIf, evG, evTg, evH, callN, iterN, noStar, notSet, notComp, notSl, plainO, ownV, isaD, tyOf, knownT, isaT, boolD, intOf, strOf, seqOf, opB, opC, negD, scal, Sf.isNon, hndN, isExcK, isStrK, tgNs, tgOf, setTg, itemD, bltC, blt1, blt2, knB, imp2, listD, opN, cmpI, Lk.knows, isOw, lineOk, isTupE, isLT, look_cons, eqO_ii, eqO_bb, eqO_ss, eqO_in, eqO_ni, eqO_ins, eqO_tup, isRev, revD, evS_while, itOk, subsetV, tgsOf, hlen, wip5]
  rw [compGo_map id _ _ [] fun d hd => by
    obtain ⟨x, _, rfl⟩ := List.mem_map.mp hd
    exact ⟨_, _, _, rfl, rfl, by unfold Gd.D; simp [hot_glob, hotK, cls_int, cls_bool, cls_str, cls_list, cls_tuple, cls_own, sc_calm, sc_top, sc_lk, sc_N, lk_kind, lk_hasM, lk_hasO, lk_isC, lk_isF, lk_exm, lk_rm, lk_call, hot_slot, hot_tslot, hot_calm, hot_top, bind_ok, bind_ex, bind_no, so_ok, so_ex, so_no, dat_ok, dat_ex, dat_no, pu_ok, pu_ex, pu_no, of_some, of_none, sb_nx, sb_rt, sb_bk, sb_ct, sb_ex, sb_no, oc_ret, oc_ex, ocD_ret, ocD_ex, setSl_pu, setSl_fr, dat_pu, dat_fr, flatV, flatD, runB, runBN, runBI, FnI.start, modI, binI, cmpI, imp2, evSs, evS, evE, evEs, evB, evT, evTs, evHd, evTl, evE1, evLL, evI, evIf, evG, evTg, evH, callN, iterN, noStar, notSet, notComp, notSl, plainO, ownV, isaD, tyOf, knownT, isaT, boolD, intOf, strOf, seqOf, opB, opC, negD, scal, Sf.isNon, hndN, isExcK, isStrK, tgNs, tgOf, setTg, itemD, bltC, blt1, blt2, knB, imp2, listD, opN, cmpI, Lk.knows, isOw, lineOk, isTupE, isLT, look_cons, eqO_ii, eqO_bb, eqO_ss, eqO_in, eqO_ni, eqO_ins, eqO_tup, isRev, revD, tk]; first | exact rfl | exact ⟨rfl, rfl⟩, rfl⟩]
  simp (decide := true) only [List.nil_append, List.map_id, bind_ok, so_ok, sb_nx, bak5, setSl_fr, List.set_cons_succ, List.set_cons_zero]
  rw [wl]
  simp (decide := true) [hot_glob, hotK, cls_int, cls_bool, cls_str, cls_list, cls_tuple, cls_own, sc_calm, sc_top, sc_lk, sc_N, lk_kind, lk_hasM, lk_hasO, lk_isC, lk_isF, lk_exm, lk_rm, lk_call, hot_slot, hot_tslot, hot_calm, hot_top, bind_ok, bind_ex, bind_no, so_ok, so_ex, so_no, dat_ok, dat_ex, dat_no, pu_ok, pu_ex, pu_no, of_some, of_none, sb_nx, sb_rt, sb_bk, sb_ct, sb_ex, sb_no, oc_ret, oc_ex, ocD_ret, ocD_ex, setSl_pu, setSl_fr, dat_pu, dat_fr, flatV, flatD, runB, runBN, runBI, FnI.start, modI, binI, cmpI, imp2, evSs, evS, evE, evEs, evB, evT, evTs, evHd, evTl, evE1, evLL, evI, evIf, evG, evTg, evH, callN, iterN, noStar, notSet, notComp, notSl, plainO, ownV, isaD, tyOf, knownT, isaT, boolD, intOf, strOf, seqOf, opB, opC, negD, scal, Sf.isNon, hndN, isExcK, isStrK, tgNs, tgOf, setTg, itemD, bltC, blt1, blt2, knB, imp2, listD, opN, cmpI, Lk.knows, isOw, lineOk, isTupE, isLT, look_cons, eqO_ii, eqO_bb, eqO_ss, eqO_in, eqO_ni, eqO_ins, eqO_tup, isRev, revD, pol, gnd]
end
end D08
namespace D08
open PySem L2 Sf Pm
section
variable {α : Type} [Lean.Grind.CommRing α] [DecidableEq α] (G : Gd α) (n : Nat)
theorem deg_ (l : List α) : (evD T (n + 1)).mt "Poly" "degree" [pol G l] = .ret (.pu (dI ((l.length : Int) - 1))) := by
  rw [cf_Poly_degree]; simp only [runB, runBN, runBI]; (conv in (FnI.body f_Poly_degree) => whnf); simp (decide := true) [hot_glob, hotK, cls_int, cls_bool, cls_str, cls_list, cls_tuple, cls_own, sc_calm, sc_top, sc_lk, sc_N, lk_kind, lk_hasM, lk_hasO, lk_isC, lk_isF, lk_exm, lk_rm, lk_call, hot_slot, hot_tslot, hot_calm, hot_top, bind_ok, bind_ex, bind_no, so_ok, so_ex, so_no, dat_ok, dat_ex, dat_no, pu_ok, pu_ex, pu_no, of_some, of_none, sb_nx, sb_rt, sb_bk, sb_ct, sb_ex, sb_no, oc_ret, oc_ex, ocD_ret, ocD_ex, setSl_pu, setSl_fr, dat_pu, dat_fr, flatV, flatD, runB, runBN, runBI, FnI.start, modI, binI, cmpI, imp2, evSs, evS, evE, evEs, evB, evT, evTs, evHd, evTl, evE1, evLL, evI, evIf, evG, evTg, evH, callN, iterN, noStar, notSet, notComp, notSl, plainO, ownV, isaD, tyOf, knownT, isaT, boolD, intOf, strOf, seqOf, opB, opC, negD, scal, Sf.isNon, hndN, isExcK, isStrK, tgNs, tgOf, setTg, itemD, bltC, blt1, blt2, knB, imp2, listD, opN, cmpI, Lk.knows, isOw, lineOk, isTupE, isLT, look_cons, eqO_ii, eqO_bb, eqO_ss, eqO_in, eqO_ni, eqO_ins, eqO_tup, isRev, revD, pol, gnd]
theorem isz_ (l : List α) : (evD T (n + 1)).mt "Poly" "is_zero" [pol G l] = .ret (.pu (dB (decide (l = [])))) := by
  have e : decide (l = []) = decide ((l.length : Int) = 0) := decide_eq_decide.mpr ⟨fun h => by rw [h]; rfl, fun h => List.length_eq_zero_iff.mp (by omega)⟩
  rw [e]
  rw [cf_Poly_is_zero]; simp only [runB, runBN, runBI]; (conv in (FnI.body f_Poly_is_zero) => whnf); simp (decide := true) [hot_glob, hotK, cls_int, cls_bool, cls_str, cls_list, cls_tuple, cls_own, sc_calm, sc_top, sc_lk, sc_N, lk_kind, lk_hasM, lk_hasO, lk_isC, lk_isF, lk_exm, lk_rm, lk_call, hot_slot, hot_tslot, hot_calm, hot_top, bind_ok, bind_ex, bind_no, so_ok, so_ex, so_no, dat_ok, dat_ex, dat_no, pu_ok, pu_ex, pu_no, of_some, of_none, sb_nx, sb_rt, sb_bk, sb_ct, sb_ex, sb_no, oc_ret, oc_ex, ocD_ret, ocD_ex, setSl_pu, setSl_fr, dat_pu, dat_fr, flatV, flatD, runB, runBN, runBI, FnI.start, modI, binI, cmpI, imp2, evSs, evS, evE, evEs, evB, evT, evTs, evHd, evTl, evE1, evLL, evI, evIf, evG, evTg, evH, callN, iterN, noStar, notSet, notComp, notSl, plainO, ownV, isaD, tyOf, knownT, isaT, boolD, intOf, strOf, seqOf, opB, opC, negD, scal, Sf.isNon, hndN, isExcK, isStrK, tgNs, tgOf, setTg, itemD, bltC, blt1, blt2, knB, imp2, listD, opN, cmpI, Lk.knows, isOw, lineOk, isTupE, isLT, look_cons, eqO_ii, eqO_bb, eqO_ss, eqO_in, eqO_ni, eqO_ins, eqO_tup, isRev, revD, pol, gnd]
theorem like_ (l m : List α) : (evD T (n + 2)).fn "require_like" [pol G l, pol G m] = .ret (.pu dN) := by
  have h := gnd_eq n G.p G.p
  unfold gnd at h
  rw [cf_require_like]; simp only [runB, runBN, runBI]; (conv in (FnI.body f_require_like) => whnf); simp (decide := true) [hot_glob, hotK, cls_int, cls_bool, cls_str, cls_list, cls_tuple, cls_own, sc_calm, sc_top, sc_lk, sc_N, lk_kind, lk_hasM, lk_hasO, lk_isC, lk_isF, lk_exm, lk_rm, lk_call, hot_slot, hot_tslot, hot_calm, hot_top, bind_ok, bind_ex, bind_no, so_ok, so_ex, so_no, dat_ok, dat_ex, dat_no, pu_ok, pu_ex, pu_no, of_some, of_none, sb_nx, sb_rt, sb_bk, sb_ct, sb_ex, sb_no, oc_ret, oc_ex, ocD_ret, ocD_ex, setSl_pu, setSl_fr, dat_pu, dat_fr, flatV, flatD, runB, runBN, runBI, FnI.start, modI, binI, cmpI, imp2, evSs, evS, evE, evEs, evB, evT, evTs, evHd, evTl, evE1, evLL, evI, evIf, evG, evTg, evH, callN, iterN, noStar, notSet, notComp, notSl, plainO, ownV, isaD, tyOf, knownT, isaT, boolD, intOf, strOf, seqOf, opB, opC, negD, scal, Sf.isNon, hndN, isExcK, isStrK, tgNs, tgOf, setTg, itemD, bltC, blt1, blt2, knB, imp2, listD, opN, cmpI, Lk.knows, isOw, lineOk, isTupE, isLT, look_cons, eqO_ii, eqO_bb, eqO_ss, eqO_in, eqO_ni, eqO_ins, eqO_tup, isRev, revD, pol, gnd, h]
theorem coef_ (l : List α) (k : Nat) : (evD T (n + 7)).mt "Poly" "coefficient" [pol G l, dI (k : Int)] = .ret (.pu (G.D (co l k))) := by
  have hz := G.zero n
  have h0 : (0 : Int) ≤ (k : Int) := by omega
  by_cases h : k < l.length
  · have h1 : (k : Int) < (l.length : Int) := by omega
    have h2 : ixN l.length (k : Int) = some k := ixN_nat h
    rw [co_lt h]
    rw [cf_Poly_coefficient]; simp only [runB, runBN, runBI]; (conv in (FnI.body f_Poly_coefficient) => whnf); simp (decide := true) [hot_glob, hotK, cls_int, cls_bool, cls_str, cls_list, cls_tuple, cls_own, sc_calm, sc_top, sc_lk, sc_N, lk_kind, lk_hasM, lk_hasO, lk_isC, lk_isF, lk_exm, lk_rm, lk_call, hot_slot, hot_tslot, hot_calm, hot_top, bind_ok, bind_ex, bind_no, so_ok, so_ex, so_no, dat_ok, dat_ex, dat_no, pu_ok, pu_ex, pu_no, of_some, of_none, sb_nx, sb_rt, sb_bk, sb_ct, sb_ex, sb_no, oc_ret, oc_ex, ocD_ret, ocD_ex, setSl_pu, setSl_fr, dat_pu, dat_fr, flatV, flatD, runB, runBN, runBI, FnI.start, modI, binI, cmpI, imp2, evSs, evS, evE, evEs, evB, evT, evTs, evHd, evTl, evE1, evLL, evI, evIf, evG, evTg, evH, callN, iterN, noStar, notSet, notComp, notSl, plainO, ownV, isaD, tyOf, knownT, isaT, boolD, intOf, strOf, seqOf, opB, opC, negD, scal, Sf.isNon, hndN, isExcK, isStrK, tgNs, tgOf, setTg, itemD, bltC, blt1, blt2, knB, imp2, listD, opN, cmpI, Lk.knows, isOw, lineOk, isTupE, isLT, look_cons, eqO_ii, eqO_bb, eqO_ss, eqO_in, eqO_ni, eqO_ins, eqO_tup, isRev, revD, pol, gnd, h0, h1, h2, h]
  · have h1 : ¬ (k : Int) < (l.length : Int) := by omega
    rw [co_ge (by omega)]
    unfold Gd.D
    rw [cf_Poly_coefficient]; simp only [runB, runBN, runBI]; (conv in (FnI.body f_Poly_coefficient) => whnf); simp (decide := true) [hot_glob, hotK, cls_int, cls_bool, cls_str, cls_list, cls_tuple, cls_own, sc_calm, sc_top, sc_lk, sc_N, lk_kind, lk_hasM, lk_hasO, lk_isC, lk_isF, lk_exm, lk_rm, lk_call, hot_slot, hot_tslot, hot_calm, hot_top, bind_ok, bind_ex, bind_no, so_ok, so_ex, so_no, dat_ok, dat_ex, dat_no, pu_ok, pu_ex, pu_no, of_some, of_none, sb_nx, sb_rt, sb_bk, sb_ct, sb_ex, sb_no, oc_ret, oc_ex, ocD_ret, ocD_ex, setSl_pu, setSl_fr, dat_pu, dat_fr, flatV, flatD, runB, runBN, runBI, FnI.start, modI, binI, cmpI, imp2, evSs, evS, evE, evEs, evB, evT, evTs, evHd, evTl, evE1, evLL, evI, evIf, evG, evTg, evH, callN, iterN, noStar, notSet, notComp, notSl, plainO, ownV, isaD, tyOf, knownT, isaT, boolD, intOf, strOf, seqOf, opB, opC, negD, scal, Sf.isNon, hndN, isExcK, isStrK, tgNs, tgOf, setTg, itemD, bltC, blt1, blt2, knB, imp2, listD, opN, cmpI, Lk.knows, isOw, lineOk, isTupE, isLT, look_cons, eqO_ii, eqO_bb, eqO_ss, eqO_in, eqO_ni, eqO_ins, eqO_tup, isRev, revD, pol, gnd, h0, h1, hz, Gd.D]
theorem eqT_all (l : List α) : ((l.map G.D).zip (l.map G.D)).all (fun p => eqT2 (T.lk (evD T (n + 6))) p.1 p.2) = true := by
  refine List.all_eq_true.mpr fun q hq => ?_
  induction l with
  | nil => cases hq
  | cons x l ih =>
    rw [List.map_cons, List.zip_cons_cons] at hq
    rcases List.mem_cons.mp hq with rfl | hq
    · have h := G.eqv n x x
      have h2 := G.oe
      simp only [decide_true] at h
      unfold eqT2 eqT1 Gd.D at *
      simp (decide := true) [hot_glob, hotK, cls_int, cls_bool, cls_str, cls_list, cls_tuple, cls_own, sc_calm, sc_top, sc_lk, sc_N, lk_kind, lk_hasM, lk_hasO, lk_isC, lk_isF, lk_exm, lk_rm, lk_call, hot_slot, hot_tslot, hot_calm, hot_top, bind_ok, bind_ex, bind_no, so_ok, so_ex, so_no, dat_ok, dat_ex, dat_no, pu_ok, pu_ex, pu_no, of_some, of_none, sb_nx, sb_rt, sb_bk, sb_ct, sb_ex, sb_no, oc_ret, oc_ex, ocD_ret, ocD_ex, setSl_pu, setSl_fr, dat_pu, dat_fr, flatV, flatD, runB, runBN, runBI, FnI.start, modI, binI, cmpI, imp2, evSs, evS, evE, evEs, evB, evT, evTs, evHd, evTl, evE1, evLL, evI, evIf, evG, evTg, evH, callN, iterN, noStar, notSet, notComp, notSl, plainO, ownV, isaD, tyOf, knownT, isaT, boolD, intOf, strOf, seqOf, opB, opC, negD, scal, Sf.isNon, hndN, isExcK, isStrK, tgNs, tgOf, setTg, itemD, bltC, blt1, blt2, knB, imp2, listD, opN, cmpI, Lk.knows, isOw, lineOk, isTupE, isLT, look_cons, eqO_ii, eqO_bb, eqO_ss, eqO_in, eqO_ni, eqO_ins, eqO_tup, isRev, revD, h, h2]
    · exact ih hq
/-- equal rows -/
theorem eq_ (l : List α) : (evD T (n + 7)).mt "Poly" "__eq__" [pol G l, pol G l] = .ret (.pu (dB true)) := by
  have h := gnd_eq (n + 5) G.p G.p
  have h2 := eqT_all G n l
  unfold gnd at h
  rw [cf_Polyu_equ]; simp only [runB, runBN, runBI]; (conv in (FnI.body f_Polyu_equ) => whnf); simp (decide := true) [hot_glob, hotK, cls_int, cls_bool, cls_str, cls_list, cls_tuple, cls_own, sc_calm, sc_top, sc_lk, sc_N, lk_kind, lk_hasM, lk_hasO, lk_isC, lk_isF, lk_exm, lk_rm, lk_call, hot_slot, hot_tslot, hot_calm, hot_top, bind_ok, bind_ex, bind_no, so_ok, so_ex, so_no, dat_ok, dat_ex, dat_no, pu_ok, pu_ex, pu_no, of_some, of_none, sb_nx, sb_rt, sb_bk, sb_ct, sb_ex, sb_no, oc_ret, oc_ex, ocD_ret, ocD_ex, setSl_pu, setSl_fr, dat_pu, dat_fr, flatV, flatD, runB, runBN, runBI, FnI.start, modI, binI, cmpI, imp2, evSs, evS, evE, evEs, evB, evT, evTs, evHd, evTl, evE1, evLL, evI, evIf, evG, evTg, evH, callN, iterN, noStar, notSet, notComp, notSl, plainO, ownV, isaD, tyOf, knownT, isaT, boolD, intOf, strOf, seqOf, opB, opC, negD, scal, Sf.isNon, hndN, isExcK, isStrK, tgNs, tgOf, setTg, itemD, bltC, blt1, blt2, knB, imp2, listD, opN, cmpI, Lk.knows, isOw, lineOk, isTupE, isLT, look_cons, eqO_ii, eqO_bb, eqO_ss, eqO_in, eqO_ni, eqO_ins, eqO_tup, isRev, revD, pol, gnd, h, h2]
end
end D08
namespace D08
open PySem L2 Sf Pm
theorem rngI0 (p : Int) (h0 : 0 ≤ p) (h1 : p < 1000) : rngI [dI p] = some (rgD 0 1 p.toNat) := by
  show (if smI p then some (rgD 0 1 p.toNat) else none) = _
  rw [if_pos (smI_ok (by omega) (by omega))]
theorem rngN (k : Nat) (h : k < 1000) : rngI [dI (k : Int)] = some (rgD 0 1 k) := by
  have r := rngI0 (k : Int) (Int.natCast_nonneg k) (by omega)
  rwa [Int.toNat_natCast] at r
theorem rgD_nat {k : Nat} {d : Dat} (h : d ∈ rgD 0 1 k) : ∃ j : Nat, j < k ∧ d = dI (j : Int) := by
  unfold rgD at h
  obtain ⟨t, ht, rfl⟩ := List.mem_map.mp h
  exact ⟨t, List.mem_range.mp ht, by simp⟩
/-- by indices -/
def byI (F : Nat → Dat) : Dat → Dat
  | .v (.int i) => F i.toNat
  | d => d
theorem map_byI (F : Nat → Dat) (k : Nat) : (rgD 0 1 k).map (byI F) = (List.range k).map F := by
  unfold rgD
  rw [List.map_map]
  refine List.map_congr_left fun t _ => ?_
  show byI F (dI (0 + (t : Int) * 1)) = F t
  unfold byI
  simp
section
variable {α : Type} [Lean.Grind.CommRing α] [DecidableEq α] (G : Gd α) (n : Nat)
/-- all numbers of a row are so short -/
def SzL (s : Nat) (l : List α) : Prop := ∀ j, G.Sz s (co l j)
theorem wipA (a b c : Sl) : wip [a, b, c, .no] [3] = [a, b, c, .no] := rfl
theorem bakA (a b c : Sl) : bak [a, b, c, .no] [a, b, c, .no] [3] = [a, b, c, .no] := rfl
theorem add_ {s t : Nat} (f g : List α) (hf : SzL G s f) (hg : SzL G t g) (hst : s + t ≤ 8500) (lf : f.length ≤ 500) (lg : g.length ≤ 500) :
    (evD T (n + 9)).mt "Poly" "__add__" [pol G f, pol G g] = .ret (.pu (pol G (trim ((List.range (max f.length g.length)).map fun k => co f k + co g k)))) := by
  have hr : rngI [dI (if f.length < g.length then (g.length : Int) else (f.length : Int))] = some (rgD 0 1 (max f.length g.length)) := by
    have e : (if f.length < g.length then (g.length : Int) else (f.length : Int)) = ((max f.length g.length : Nat) : Int) := by split <;> omega
    rw [e]
    exact rngN _ (by omega)
  have lk := like_ G (n + 6) f g
  have cf := fun k => coef_ G (n + 1) f k
  have cg := fun k => coef_ G (n + 1) g k
  have ad := fun k => G.add (n + 2) (hf k) (hg k) hst
  have oa := G.oa
  have m := mk_ G n ((List.range (max f.length g.length)).map fun k => co f k + co g k) (by rw [List.length_map, List.length_range]; omega)
  have hl : max f.length g.length ≤ 100000 := by omega
  have hL : (rgD 0 1 (max f.length g.length)).length ≤ 100000 := by rw [rgD_length]; exact hl
  unfold pol gnd at *
  rw [cf_Polyu_addu]; simp only [runB, runBN, runBI]; (conv in (FnI.body f_Polyu_addu) => whnf); simp (decide := true) [hot_glob, hotK, cls_int, cls_bool, cls_str, cls_list, cls_tuple, cls_own, sc_calm, sc_top, sc_lk, sc_N, lk_kind, lk_hasM, lk_hasO, lk_isC, lk_isF, lk_exm, lk_rm, lk_call, hot_slot, hot_tslot, hot_calm, hot_top, bind_ok, bind_ex, bind_no, so_ok, so_ex, so_no, dat_ok, dat_ex, dat_no, pu_ok, pu_ex, pu_no, of_some, of_none, sb_nx, sb_rt, sb_bk, sb_ct, sb_ex, sb_no, oc_ret, oc_ex, ocD_ret, ocD_ex, setSl_pu, setSl_fr, dat_pu, dat_fr, flatV, flatD, runB, runBN, runBI, FnI.start, modI, binI, cmpI, imp2, evSs, evS, evE, evEs, evB, evT, evTs, evHd, evTl, evE1, evLL, evI, evIf, evG, evTg, evH, callN, iterN, noStar, notSet, notComp, notSl, plainO, ownV, isaD, tyOf, knownT, isaT, boolD, intOf, strOf, seqOf, opB, opC, negD, scal, Sf.isNon, hndN, isExcK, isStrK, tgNs, tgOf, setTg, itemD, bltC, blt1, blt2, knB, imp2, listD, opN, cmpI, Lk.knows, isOw, lineOk, isTupE, isLT, look_cons, eqO_ii, eqO_bb, eqO_ss, eqO_in, eqO_ni, eqO_ins, eqO_tup, isRev, revD, lk, itOk, subsetV, tgsOf, wipA]
  rw [hr]
  simp only [of_some, bind_ok, wipA]
  rw [if_pos hL, compGo_map (byI fun k => G.D (co f k + co g k)) _ _ [] fun d hd => by
    obtain ⟨k, hk, rfl⟩ := rgD_nat hd
    have cf := cf k
    have cg := cg k
    have ad := ad k
    exact ⟨_, _, _, rfl, rfl, by unfold byI; simp (decide := true) [hot_glob, hotK, cls_int, cls_bool, cls_str, cls_list, cls_tuple, cls_own, sc_calm, sc_top, sc_lk, sc_N, lk_kind, lk_hasM, lk_hasO, lk_isC, lk_isF, lk_exm, lk_rm, lk_call, hot_slot, hot_tslot, hot_calm, hot_top, bind_ok, bind_ex, bind_no, so_ok, so_ex, so_no, dat_ok, dat_ex, dat_no, pu_ok, pu_ex, pu_no, of_some, of_none, sb_nx, sb_rt, sb_bk, sb_ct, sb_ex, sb_no, oc_ret, oc_ex, ocD_ret, ocD_ex, setSl_pu, setSl_fr, dat_pu, dat_fr, flatV, flatD, runB, runBN, runBI, FnI.start, modI, binI, cmpI, imp2, evSs, evS, evE, evEs, evB, evT, evTs, evHd, evTl, evE1, evLL, evI, evIf, evG, evTg, evH, callN, iterN, noStar, notSet, notComp, notSl, plainO, ownV, isaD, tyOf, knownT, isaT, boolD, intOf, strOf, seqOf, opB, opC, negD, scal, Sf.isNon, hndN, isExcK, isStrK, tgNs, tgOf, setTg, itemD, bltC, blt1, blt2, knB, imp2, listD, opN, cmpI, Lk.knows, isOw, lineOk, isTupE, isLT, look_cons, eqO_ii, eqO_bb, eqO_ss, eqO_in, eqO_ni, eqO_ins, eqO_tup, isRev, revD, cf, cg, ad, oa, Gd.D]; first | exact rfl | exact ⟨rfl, rfl⟩, rfl⟩]
  rw [map_byI]
  have e : (List.range (max f.length g.length)).map (fun k => G.D (co f k + co g k)) = ((List.range (max f.length g.length)).map fun k => co f k + co g k).map G.D := by rw [List.map_map]; rfl
  rw [e]
  simp (decide := true) only [List.nil_append, bind_ok, so_ok, sb_nx, bakA, dat_ok, dat_fr, pu_ok, m, ocD_ret, dat_pu]
  rfl
end
end D08
namespace D08
open PySem L2 Sf Pm
section
variable {α : Type} [Lean.Grind.CommRing α] [DecidableEq α] (G : Gd α) (n : Nat)
theorem wipS (a b : Sl) : wip [a, b, .no] [2] = [a, b, .no] := rfl
theorem bakS (a b : Sl) : bak [a, b, .no] [a, b, .no] [2] = [a, b, .no] := rfl
theorem szL_mem {s : Nat} {l : List α} (h : SzL G s l) {x : α} (hx : x ∈ l) : G.Sz s x := by
  obtain ⟨i, hi, rfl⟩ := List.getElem_of_mem hx
  have := h i
  rwa [co_lt hi] at this
theorem scaled_ {s t : Nat} (f : List α) (c : α) (hf : SzL G s f) (hc : G.Sz t c) (hst : s + t ≤ 8500) (lf : f.length ≤ 500) :
    (evD T (n + 9)).mt "Poly" "scaled" [pol G f, G.D c] = .ret (.pu (pol G (trim (f.map fun x => x * c)))) := by
  have om := G.om
  have m := mk_ G n (f.map fun x => x * c) (by rw [List.length_map]; omega)
  have hl : f.length ≤ 100000 := by omega
  unfold pol gnd at *
  rw [cf_Poly_scaled]; simp only [runB, runBN, runBI]; (conv in (FnI.body f_Poly_scaled) => whnf); simp (decide := true) [hot_glob, hotK, cls_int, cls_bool, cls_str, cls_list, cls_tuple, cls_own, sc_calm, sc_top, sc_lk, sc_N, lk_kind, lk_hasM, lk_hasO, lk_isC, lk_isF, lk_exm, lk_rm, lk_call, hot_slot, hot_tslot, hot_calm, hot_top, bind_ok, bind_ex, bind_no, so_ok, so_ex, so_no, dat_ok, dat_ex, dat_no, pu_ok, pu_ex, pu_no, of_some, of_none, sb_nx, sb_rt, sb_bk, sb_ct, sb_ex, sb_no, oc_ret, oc_ex, ocD_ret, ocD_ex, setSl_pu, setSl_fr, dat_pu, dat_fr, flatV, flatD, runB, runBN, runBI, FnI.start, modI, binI, cmpI, imp2, evSs, evS, evE, evEs, evB, evT, evTs, evHd, evTl, evE1, evLL, evI, evIf, evG, evTg, evH, callN, iterN, noStar, notSet, notComp, notSl, plainO, ownV, isaD, tyOf, knownT, isaT, boolD, intOf, strOf, seqOf, opB, opC, negD, scal, Sf.isNon, hndN, isExcK, isStrK, tgNs, tgOf, setTg, itemD, bltC, blt1, blt2, knB, imp2, listD, opN, cmpI, Lk.knows, isOw, lineOk, isTupE, isLT, look_cons, eqO_ii, eqO_bb, eqO_ss, eqO_in, eqO_ni, eqO_ins, eqO_tup, isRev, revD, itOk, subsetV, tgsOf, wipS, hl]
  rw [compGo_mapF G.D (fun x => G.D (x * c)) _ f [] fun x hx => by
    have ml := G.mul (n + 2) (szL_mem G hf hx) hc hst
    exact ⟨_, _, _, rfl, rfl, by simp (decide := true) [hot_glob, hotK, cls_int, cls_bool, cls_str, cls_list, cls_tuple, cls_own, sc_calm, sc_top, sc_lk, sc_N, lk_kind, lk_hasM, lk_hasO, lk_isC, lk_isF, lk_exm, lk_rm, lk_call, hot_slot, hot_tslot, hot_calm, hot_top, bind_ok, bind_ex, bind_no, so_ok, so_ex, so_no, dat_ok, dat_ex, dat_no, pu_ok, pu_ex, pu_no, of_some, of_none, sb_nx, sb_rt, sb_bk, sb_ct, sb_ex, sb_no, oc_ret, oc_ex, ocD_ret, ocD_ex, setSl_pu, setSl_fr, dat_pu, dat_fr, flatV, flatD, runB, runBN, runBI, FnI.start, modI, binI, cmpI, imp2, evSs, evS, evE, evEs, evB, evT, evTs, evHd, evTl, evE1, evLL, evI, evIf, evG, evTg, evH, callN, iterN, noStar, notSet, notComp, notSl, plainO, ownV, isaD, tyOf, knownT, isaT, boolD, intOf, strOf, seqOf, opB, opC, negD, scal, Sf.isNon, hndN, isExcK, isStrK, tgNs, tgOf, setTg, itemD, bltC, blt1, blt2, knB, imp2, listD, opN, cmpI, Lk.knows, isOw, lineOk, isTupE, isLT, look_cons, eqO_ii, eqO_bb, eqO_ss, eqO_in, eqO_ni, eqO_ins, eqO_tup, isRev, revD, ml, om, Gd.D]; first | exact rfl | exact ⟨rfl, rfl⟩, rfl⟩]
  have e : f.map (fun x => G.D (x * c)) = (f.map fun x => x * c).map G.D := by rw [List.map_map]; rfl
  rw [e]
  simp (decide := true) only [List.nil_append, bind_ok, so_ok, sb_nx, bakS, dat_ok, dat_fr, pu_ok, m, ocD_ret, dat_pu]
  rfl
theorem monic_ {s : Nat} (f : List α) (x : α) (hx : x ≠ 0) (hf : SzL G s (f ++ [x])) (hst : s + s ≤ 8500) (lf : f.length ≤ 400) :
    (evD T (n + 10)).mt "Poly" "monic" [pol G (f ++ [x])] = .ret (.pu (pol G (trim ((f ++ [x]).map fun y => y * G.inv x)))) := by
  have hxs : G.Sz s x := szL_mem G hf (by simp)
  have h1 := isz_ G (n + 8) (f ++ [x])
  have h2 := scaled_ G n (f ++ [x]) (G.inv x) hf (G.szI hxs hx) hst (by simp; omega)
  have h3 := G.iv (n + 1) hxs hx (by omega)
  have h4 := ixN_last f.length
  have h5 : (f.map G.D ++ [G.D x])[f.length]? = some (G.D x) := by rw [List.getElem?_append_right (by simp)]; simp
  have h6 := G.hi
  have h7 := G.ki
  have h8 : decide (f ++ [x] = []) = false := by simp
  rw [h8] at h1
  generalize (f ++ [x]).map (fun y => y * G.inv x) = q at *
  unfold pol gnd at *
  rw [List.map_append, List.map_cons, List.map_nil] at *
  simp only [Gd.D] at h1 h2 h5
  rw [cf_Poly_monic]; simp only [runB, runBN, runBI]; (conv in (FnI.body f_Poly_monic) => whnf); simp (decide := true) [hot_glob, hotK, cls_int, cls_bool, cls_str, cls_list, cls_tuple, cls_own, sc_calm, sc_top, sc_lk, sc_N, lk_kind, lk_hasM, lk_hasO, lk_isC, lk_isF, lk_exm, lk_rm, lk_call, hot_slot, hot_tslot, hot_calm, hot_top, bind_ok, bind_ex, bind_no, so_ok, so_ex, so_no, dat_ok, dat_ex, dat_no, pu_ok, pu_ex, pu_no, of_some, of_none, sb_nx, sb_rt, sb_bk, sb_ct, sb_ex, sb_no, oc_ret, oc_ex, ocD_ret, ocD_ex, setSl_pu, setSl_fr, dat_pu, dat_fr, flatV, flatD, runB, runBN, runBI, FnI.start, modI, binI, cmpI, imp2, evSs, evS, evE, evEs, evB, evT, evTs, evHd, evTl, evE1, evLL, evI, evIf, evG, evTg, evH, callN, iterN, noStar, notSet, notComp, notSl, plainO, ownV, isaD, tyOf, knownT, isaT, boolD, intOf, strOf, seqOf, opB, opC, negD, scal, Sf.isNon, hndN, isExcK, isStrK, tgNs, tgOf, setTg, itemD, bltC, blt1, blt2, knB, imp2, listD, opN, cmpI, Lk.knows, isOw, lineOk, isTupE, isLT, look_cons, eqO_ii, eqO_bb, eqO_ss, eqO_in, eqO_ni, eqO_ins, eqO_tup, isRev, revD, h1, h2, h3, h4, h5, h6, h7, Gd.D]
theorem monic0_ : (evD T (n + 3)).mt "Poly" "monic" [pol G []] = .ret (.pu (pol G [])) := by
  have h1 := isz_ G (n + 1) []
  unfold pol gnd at *
  simp only [decide_true, List.map_nil] at h1 ⊢
  rw [cf_Poly_monic]; simp only [runB, runBN, runBI]; (conv in (FnI.body f_Poly_monic) => whnf); simp (decide := true) [hot_glob, hotK, cls_int, cls_bool, cls_str, cls_list, cls_tuple, cls_own, sc_calm, sc_top, sc_lk, sc_N, lk_kind, lk_hasM, lk_hasO, lk_isC, lk_isF, lk_exm, lk_rm, lk_call, hot_slot, hot_tslot, hot_calm, hot_top, bind_ok, bind_ex, bind_no, so_ok, so_ex, so_no, dat_ok, dat_ex, dat_no, pu_ok, pu_ex, pu_no, of_some, of_none, sb_nx, sb_rt, sb_bk, sb_ct, sb_ex, sb_no, oc_ret, oc_ex, ocD_ret, ocD_ex, setSl_pu, setSl_fr, dat_pu, dat_fr, flatV, flatD, runB, runBN, runBI, FnI.start, modI, binI, cmpI, imp2, evSs, evS, evE, evEs, evB, evT, evTs, evHd, evTl, evE1, evLL, evI, evIf, evG, evTg, evH, callN, iterN, noStar, notSet, notComp, notSl, plainO, ownV, isaD, tyOf, knownT, isaT, boolD, intOf, strOf, seqOf, opB, opC, negD, scal, Sf.isNon, hndN, isExcK, isStrK, tgNs, tgOf, setTg, itemD, bltC, blt1, blt2, knB, imp2, listD, opN, cmpI, Lk.knows, isOw, lineOk, isTupE, isLT, look_cons, eqO_ii, eqO_bb, eqO_ss, eqO_in, eqO_ni, eqO_ins, eqO_tup, isRev, revD, h1]
end
end D08
namespace Pm
section
variable {α : Type} [Lean.Grind.CommRing α]
/-- x times ys added, from place i + k on -/
def inr (x : α) (i : Nat) : Nat → List α → List α → List α
  | _, [], L => L
  | k, y :: ys, L => inr x i (k + 1) ys (L.set (i + k) (co L (i + k) + x * y))
def outr (g : List α) : Nat → List α → List α → List α
  | _, [], L => L
  | i, x :: xs, L => outr g (i + 1) xs (inr x i 0 g L)
theorem inr_len (x : α) (i : Nat) : ∀ (ys : List α) (k : Nat) (L : List α), (inr x i k ys L).length = L.length
  | [], _, _ => rfl
  | y :: ys, k, L => by unfold inr; rw [inr_len x i ys, List.length_set]
theorem outr_len (g : List α) : ∀ (xs : List α) (i : Nat) (L : List α), (outr g i xs L).length = L.length
  | [], _, _ => rfl
  | x :: xs, i, L => by unfold outr; rw [outr_len g xs, inr_len]
theorem inr_co (x : α) (i : Nat) : ∀ (ys : List α) (k : Nat) (L : List α) (j : Nat), i + k + ys.length ≤ L.length → co (inr x i k ys L) j = co L j + (if i + k ≤ j then x * co ys (j - (i + k)) else 0)
  | [], k, L, j, _ => by
    unfold inr
    split
    · rw [show co ([] : List α) (j - (i + k)) = 0 from co_ge (Nat.zero_le _)]; grind
    · grind
  | y :: ys, k, L, j, h => by
    rw [List.length_cons] at h
    unfold inr
    rw [inr_co x i ys (k + 1) _ j (by rw [List.length_set]; omega), co_set (by omega)]
    by_cases e : j = i + k
    · subst e
      rw [if_pos rfl, if_neg (by omega), if_pos (by omega), Nat.sub_self]
      show _ = _ + x * y
      grind
    · rw [if_neg e]
      by_cases e2 : i + k ≤ j
      · rw [if_pos (by omega), if_pos e2]
        have : j - (i + k) = (j - (i + (k + 1))) + 1 := by omega
        rw [this]
        rfl
      · rw [if_neg (by omega), if_neg e2]
theorem outr_co (g : List α) : ∀ (xs : List α) (i : Nat) (L : List α) (j : Nat), i + xs.length + g.length ≤ L.length + 1 → (xs = [] ∨ i + xs.length + g.length ≤ L.length) → co (outr g i xs L) j = co L j + sumN (fun t => co xs t * sh g (i + t) j) xs.length
  | [], i, L, j, _, _ => by
    unfold outr
    show _ = _ + (0 : α)
    grind
  | x :: xs, i, L, j, h, h2 => by
    rw [List.length_cons] at h
    have h3 : i + (xs.length + 1) + g.length ≤ L.length := by
      rcases h2 with h2 | h2
      · cases h2
      · exact h2
    unfold outr
    rw [outr_co g xs (i + 1) _ j (by rw [inr_len]; omega) (.inr (by rw [inr_len]; omega)), inr_co x i g 0 L j (by omega), List.length_cons, sumN_head]
    have e : sumN (fun t => co (x :: xs) (t + 1) * sh g (i + (t + 1)) j) xs.length = sumN (fun t => co xs t * sh g (i + 1 + t) j) xs.length := sumN_congr fun t ht => by
      rw [show i + (t + 1) = i + 1 + t by omega]; rfl
    rw [e]
    have e2 : co (x :: xs) 0 * sh g (i + 0) j = if i + 0 ≤ j then x * co g (j - (i + 0)) else 0 := by
      unfold sh
      show x * _ = _
      split <;> grind
    rw [e2]
    grind
theorem co_rep {N j : Nat} : co (List.replicate N (0 : α)) j = 0 := by
  by_cases h : j < N
  · rw [co_lt (by simpa using h)]; simp
  · rw [co_ge (by simpa using h)]
theorem prod_co (f g : List α) (j : Nat) : co (outr g 0 f (List.replicate (f.length + g.length) 0)) j = conv f g j := by
  rw [outr_co g f 0 _ j (by rw [List.length_replicate]; omega) (.inr (by rw [List.length_replicate]; omega)), co_rep]
  unfold conv
  simp only [Nat.zero_add]
  grind
end
end Pm
namespace D08
open PySem L2 Sf Pm
section
variable {α : Type} [Lean.Grind.CommRing α] [DecidableEq α] (G : Gd α) (n : Nat)
abbrev m1 : Stmt := stAt f_Polyu_mulu.body 3
abbrev bM1 : List Stmt := lpB m1
abbrev m2 : Stmt := stAt bM1 0
abbrev bM2 : List Stmt := lpB m2
theorem bMul : f_Polyu_mulu.body = [stAt f_Polyu_mulu.body 0, stAt f_Polyu_mulu.body 1, stAt f_Polyu_mulu.body 2, .For (lpT m1) (lpI m1) bM1 [] (lpP m1), stAt f_Polyu_mulu.body 4] := by kernel_rfl
theorem bMul1 : bM1 = [.For (lpT m2) (lpI m2) bM2 [] (lpP m2)] := by kernel_rfl
def stM (a b z : Dat) (L : List α) (s4 s5 s6 s7 s8 : Sl) : List Sl := [.pu a, .pu b, .pu z, .ow false (L.map G.D), s4, s5, s6, s7, s8]
theorem mulB {s t : Nat} (a b z : Dat) (L : List α) (s4 : Sl) (i k : Nat) (x y : α) (h : i + k < L.length) (hx : G.Sz s x) (hy : G.Sz t y) {B : Nat} (hL : G.Sz B (co L (i + k))) (hst : B + (s + t) ≤ 8500) :
    evSs bM2 (T.sc f_Polyu_mulu (evD T (n + 8))) (stM G a b z L s4 (.pu (dI (i : Int))) (.pu (G.D x)) (.pu (dI (k : Int))) (.pu (G.D y))) = .nx (stM G a b z (L.set (i + k) (co L (i + k) + x * y)) s4 (.pu (dI (i : Int))) (.pu (G.D x)) (.pu (dI (k : Int))) (.pu (G.D y))) := by
  have h1 : ixN L.length ((i : Int) + (k : Int)) = some (i + k) := by rw [← Int.natCast_add]; exact ixN_nat h
  have h2 : L[i + k]? = some (co L (i + k)) := by rw [co_lt h, List.getElem?_eq_getElem h]
  have h3 := G.mul (n + 2) hx hy (by omega)
  have h4 := G.add (n + 2) hL (G.szM hx hy) hst
  have om := G.om
  have oa := G.oa
  unfold stM
  rw [List.map_set]
  generalize co L (i + k) = w at *
  (conv in (bM2) => whnf); simp (decide := true) [hot_glob, hotK, cls_int, cls_bool, cls_str, cls_list, cls_tuple, cls_own, sc_calm, sc_top, sc_lk, sc_N, lk_kind, lk_hasM, lk_hasO, lk_isC, lk_isF, lk_exm, lk_rm, lk_call, hot_slot, hot_tslot, hot_calm, hot_top, bind_ok, bind_ex, bind_no, so_ok, so_ex, so_no, dat_ok, dat_ex, dat_no, pu_ok, pu_ex, pu_no, of_some, of_none, sb_nx, sb_rt, sb_bk, sb_ct, sb_ex, sb_no, oc_ret, oc_ex, ocD_ret, ocD_ex, setSl_pu, setSl_fr, dat_pu, dat_fr, flatV, flatD, runB, runBN, runBI, FnI.start, modI, binI, cmpI, imp2, evSs, evS, evE, evEs, evB, evT, evTs, evHd, evTl, evE1, evLL, evI, evIf, evG, evTg, evH, callN, iterN, noStar, notSet, notComp, notSl, plainO, ownV, isaD, tyOf, knownT, isaT, boolD, intOf, strOf, seqOf, opB, opC, negD, scal, Sf.isNon, hndN, isExcK, isStrK, tgNs, tgOf, setTg, itemD, bltC, blt1, blt2, knB, imp2, listD, opN, cmpI, Lk.knows, isOw, lineOk, isTupE, isLT, look_cons, eqO_ii, eqO_bb, eqO_ss, eqO_in, eqO_ni, eqO_ins, eqO_tup, isRev, revD, h1, h2, h3, h4, om, oa, Gd.D]
theorem inner_go {s t : Nat} (a b z : Dat) (s4 : Sl) (i : Nat) (x : α) (hx : G.Sz s x) {B : Nat} (hst : B + (s + t) ≤ 8500) : ∀ (ys : List α) (k : Nat) (L : List α) (s7 s8 : Sl), i + k + ys.length ≤ L.length → (∀ y ∈ ys, G.Sz t y) → (∀ j, i + k ≤ j → G.Sz B (co L j)) →
    ∃ s7' s8', forGo (.many [7, 8]) (fun ρ => evSs bM2 (T.sc f_Polyu_mulu (evD T (n + 8))) ρ) (enD k (ys.map G.D)) (stM G a b z L s4 (.pu (dI (i : Int))) (.pu (G.D x)) s7 s8) = .nx (stM G a b z (inr x i k ys L) s4 (.pu (dI (i : Int))) (.pu (G.D x)) s7' s8')
  | [], k, L, s7, s8, _, _, _ => ⟨s7, s8, rfl⟩
  | y :: ys, k, L, s7, s8, h, hy, hL => by
    rw [List.length_cons] at h
    have hb := mulB G n a b z L s4 i k x y (by omega) hx (hy y List.mem_cons_self) (hL _ (Nat.le_refl _)) hst
    obtain ⟨t7, t8, e⟩ := inner_go a b z s4 i x hx hst ys (k + 1) (L.set (i + k) (co L (i + k) + x * y)) (.pu (dI (k : Int))) (.pu (G.D y)) (by rw [List.length_set]; omega) (fun w hw => hy w (List.mem_cons_of_mem _ hw)) (fun j hj => by
      rw [co_set (by omega), if_neg (by omega)]
      exact hL j (by omega))
    refine ⟨t7, t8, ?_⟩
    rw [List.map_cons, enD, forGo_cons]
    have hs : setTg (.many [7, 8]) (.tup [dI (k : Int), G.D y]) (stM G a b z L s4 (.pu (dI (i : Int))) (.pu (G.D x)) s7 s8) = some (stM G a b z L s4 (.pu (dI (i : Int))) (.pu (G.D x)) (.pu (dI (k : Int))) (.pu (G.D y))) := rfl
    rw [hs]
    dsimp only
    rw [hb]
    exact e
theorem inr_sz {s t B : Nat} (x : α) (i : Nat) (hx : G.Sz s x) (g : List α) (hg : SzL G t g) (L : List α) (hL : SzL G B L) (h : i + g.length ≤ L.length) : SzL G (B + (s + t) + 1) (inr x i 0 g L) := fun j => by
  rw [inr_co x i g 0 L j (by omega)]
  by_cases e : i + 0 ≤ j
  · rw [if_pos e]
    exact G.szA (hL j) (G.szM hx (hg _))
  · rw [if_neg e]
    have : co L j + 0 = co L j := by grind
    rw [this]
    exact G.mono (hL j) (by omega)
/-- the outer loop's body -/
theorem mulO {s t : Nat} (z : Dat) (f g : List α) (L : List α) (s4 : Sl) (i : Nat) (x : α) (s7 s8 : Sl) (hx : G.Sz s x) (hg : SzL G t g) {B : Nat} (hst : B + (s + t) ≤ 8500) (hL : SzL G B L) (hl : i + g.length ≤ L.length) :
    ∃ s7' s8', evSs bM1 (T.sc f_Polyu_mulu (evD T (n + 8))) (stM G (pol G f) (pol G g) z L s4 (.pu (dI (i : Int))) (.pu (G.D x)) s7 s8) = .nx (stM G (pol G f) (pol G g) z (inr x i 0 g L) s4 (.pu (dI (i : Int))) (.pu (G.D x)) s7' s8') := by
  obtain ⟨t7, t8, e⟩ := inner_go G n (pol G f) (pol G g) z s4 i x hx hst g 0 L s7 s8 (by omega) (fun y hy => szL_mem G hg hy) (fun j _ => hL j)
  refine ⟨t7, t8, ?_⟩
  unfold stM pol gnd at e ⊢
  rw [bMul1]; (conv in (lpT m2) => whnf); (conv in (lpI m2) => whnf)
  simp (decide := true) [hot_glob, hotK, cls_int, cls_bool, cls_str, cls_list, cls_tuple, cls_own, sc_calm, sc_top, sc_lk, sc_N, lk_kind, lk_hasM, lk_hasO, lk_isC, lk_isF, lk_exm, lk_rm, lk_call, hot_slot, hot_tslot, hot_calm, hot_top, bind_ok, bind_ex, bind_no, so_ok, so_ex, so_no, dat_ok, dat_ex, dat_no, pu_ok, pu_ex, pu_no, of_some, of_none, sb_nx, sb_rt, sb_bk, sb_ct, sb_ex, sb_no, oc_ret, oc_ex, ocD_ret, ocD_ex, setSl_pu, setSl_fr, dat_pu, dat_fr, flatV, flatD, runB, runBN, runBI, FnI.start, modI, binI, cmpI, imp2, evSs, evS, evE, evEs, evB, evT, evTs, evHd, evTl, evE1, evLL, evI, evIf, evG, evTg, evH, callN, iterN, noStar, notSet, notComp, notSl, plainO, ownV, isaD, tyOf, knownT, isaT, boolD, intOf, strOf, seqOf, opB, opC, negD, scal, Sf.isNon, hndN, isExcK, isStrK, tgNs, tgOf, setTg, itemD, bltC, blt1, blt2, knB, imp2, listD, opN, cmpI, Lk.knows, isOw, lineOk, isTupE, isLT, look_cons, eqO_ii, eqO_bb, eqO_ss, eqO_in, eqO_ni, eqO_ins, eqO_tup, isRev, revD, enI]
  rw [e]
  rfl
theorem outer_go {s t : Nat} (z : Dat) (f g : List α) (s4 : Sl) (hg : SzL G t g) : ∀ (xs : List α) (i B : Nat) (L : List α) (s5 s6 s7 s8 : Sl), (∀ x ∈ xs, G.Sz s x) → SzL G B L → B + xs.length * (s + t + 1) ≤ 8500 → i + xs.length + g.length ≤ L.length →
    ∃ s5' s6' s7' s8', forGo (.many [5, 6]) (fun ρ => evSs bM1 (T.sc f_Polyu_mulu (evD T (n + 8))) ρ) (enD i (xs.map G.D)) (stM G (pol G f) (pol G g) z L s4 s5 s6 s7 s8) = .nx (stM G (pol G f) (pol G g) z (outr g i xs L) s4 s5' s6' s7' s8')
  | [], i, B, L, s5, s6, s7, s8, _, _, _, _ => ⟨s5, s6, s7, s8, rfl⟩
  | x :: xs, i, B, L, s5, s6, s7, s8, hx, hL, hB, hl => by
    rw [List.length_cons] at hl hB
    have hB2 : B + (xs.length * (s + t + 1) + (s + t + 1)) ≤ 8500 := by rw [Nat.succ_mul] at hB; exact hB
    obtain ⟨t7, t8, e1⟩ := mulO G n z f g L s4 i x s7 s8 (hx x List.mem_cons_self) hg (B := B) (by omega) hL (by omega)
    obtain ⟨u5, u6, u7, u8, e2⟩ := outer_go z f g s4 hg xs (i + 1) (B + (s + t) + 1) (inr x i 0 g L) (.pu (dI (i : Int))) (.pu (G.D x)) t7 t8 (fun w hw => hx w (List.mem_cons_of_mem _ hw)) (inr_sz G x i (hx x List.mem_cons_self) g hg L hL (by omega)) (by omega) (by rw [inr_len]; omega)
    refine ⟨u5, u6, u7, u8, ?_⟩
    rw [List.map_cons, enD, forGo_cons]
    have hs : setTg (.many [5, 6]) (.tup [dI (i : Int), G.D x]) (stM G (pol G f) (pol G g) z L s4 s5 s6 s7 s8) = some (stM G (pol G f) (pol G g) z L s4 (.pu (dI (i : Int))) (.pu (G.D x)) s7 s8) := rfl
    rw [hs]
    dsimp only
    rw [e1]
    exact e2
theorem wipM (a b c d s5 s6 s7 s8 : Sl) : wip [a, b, c, d, .no, s5, s6, s7, s8] [4] = [a, b, c, d, .no, s5, s6, s7, s8] := rfl
theorem bakM (a b c d s5 s6 s7 s8 : Sl) : bak [a, b, c, d, .no, s5, s6, s7, s8] [a, b, c, d, .no, s5, s6, s7, s8] [4] = [a, b, c, d, .no, s5, s6, s7, s8] := rfl
/-- the product's row before zeros at its end are left out -/
def prodL (f g : List α) : List α := outr g 0 f (List.replicate (f.length + g.length) 0)
end
end D08
namespace D08
open PySem L2 Sf Pm
section
variable {α : Type} [Lean.Grind.CommRing α] [DecidableEq α] (G : Gd α) (n : Nat)
abbrev cM : SC := T.sc f_Polyu_mulu (evD T (n + 8))
def st0 (a b : Dat) (z nu : Sl) : List Sl := [.pu a, .pu b, z, nu, .no, .no, .no, .no, .no]
theorem mul0 (f g : List α) : evS (stAt f_Polyu_mulu.body 0) (cM n) (st0 (pol G f) (pol G g) .no .no) = .nx (st0 (pol G f) (pol G g) .no .no) := by
  have lk := like_ G (n + 6) f g
  unfold cM st0 pol gnd at *
  (conv in (stAt f_Polyu_mulu.body 0) => whnf)
  simp (decide := true) [hot_glob, hotK, cls_int, cls_bool, cls_str, cls_list, cls_tuple, cls_own, sc_calm, sc_top, sc_lk, sc_N, lk_kind, lk_hasM, lk_hasO, lk_isC, lk_isF, lk_exm, lk_rm, lk_call, hot_slot, hot_tslot, hot_calm, hot_top, bind_ok, bind_ex, bind_no, so_ok, so_ex, so_no, dat_ok, dat_ex, dat_no, pu_ok, pu_ex, pu_no, of_some, of_none, sb_nx, sb_rt, sb_bk, sb_ct, sb_ex, sb_no, oc_ret, oc_ex, ocD_ret, ocD_ex, setSl_pu, setSl_fr, dat_pu, dat_fr, flatV, flatD, runB, runBN, runBI, FnI.start, modI, binI, cmpI, imp2, evSs, evS, evE, evEs, evB, evT, evTs, evHd, evTl, evE1, evLL, evI, evIf, evG, evTg, evH, callN, iterN, noStar, notSet, notComp, notSl, plainO, ownV, isaD, tyOf, knownT, isaT, boolD, intOf, strOf, seqOf, opB, opC, negD, scal, Sf.isNon, hndN, isExcK, isStrK, tgNs, tgOf, setTg, itemD, bltC, blt1, blt2, knB, imp2, listD, opN, cmpI, Lk.knows, isOw, lineOk, isTupE, isLT, look_cons, eqO_ii, eqO_bb, eqO_ss, eqO_in, eqO_ni, eqO_ins, eqO_tup, isRev, revD, lk]
theorem mul1 (f g : List α) : evS (stAt f_Polyu_mulu.body 1) (cM n) (st0 (pol G f) (pol G g) .no .no) = .nx (st0 (pol G f) (pol G g) (.pu (G.D 0)) .no) := by
  have hz := G.zero (n + 2)
  unfold cM st0 pol gnd at *
  (conv in (stAt f_Polyu_mulu.body 1) => whnf)
  simp (decide := true) [hot_glob, hotK, cls_int, cls_bool, cls_str, cls_list, cls_tuple, cls_own, sc_calm, sc_top, sc_lk, sc_N, lk_kind, lk_hasM, lk_hasO, lk_isC, lk_isF, lk_exm, lk_rm, lk_call, hot_slot, hot_tslot, hot_calm, hot_top, bind_ok, bind_ex, bind_no, so_ok, so_ex, so_no, dat_ok, dat_ex, dat_no, pu_ok, pu_ex, pu_no, of_some, of_none, sb_nx, sb_rt, sb_bk, sb_ct, sb_ex, sb_no, oc_ret, oc_ex, ocD_ret, ocD_ex, setSl_pu, setSl_fr, dat_pu, dat_fr, flatV, flatD, runB, runBN, runBI, FnI.start, modI, binI, cmpI, imp2, evSs, evS, evE, evEs, evB, evT, evTs, evHd, evTl, evE1, evLL, evI, evIf, evG, evTg, evH, callN, iterN, noStar, notSet, notComp, notSl, plainO, ownV, isaD, tyOf, knownT, isaT, boolD, intOf, strOf, seqOf, opB, opC, negD, scal, Sf.isNon, hndN, isExcK, isStrK, tgNs, tgOf, setTg, itemD, bltC, blt1, blt2, knB, imp2, listD, opN, cmpI, Lk.knows, isOw, lineOk, isTupE, isLT, look_cons, eqO_ii, eqO_bb, eqO_ss, eqO_in, eqO_ni, eqO_ins, eqO_tup, isRev, revD, hz, Gd.D]
theorem mul2 (f g : List α) (lf : f.length ≤ 400) (lg : g.length ≤ 400) : evS (stAt f_Polyu_mulu.body 2) (cM n) (st0 (pol G f) (pol G g) (.pu (G.D 0)) .no) = .nx (st0 (pol G f) (pol G g) (.pu (G.D 0)) (.ow false ((List.replicate (f.length + g.length) (0 : α)).map G.D))) := by
  have hr : rngI [dI ((f.length : Int) + (g.length : Int))] = some (rgD 0 1 (f.length + g.length)) := by rw [← Int.natCast_add]; exact rngN _ (by omega)
  have hL : (rgD 0 1 (f.length + g.length)).length ≤ 100000 := by rw [rgD_length]; omega
  have ez : (List.range (f.length + g.length)).map (fun _ => G.D 0) = (List.replicate (f.length + g.length) (0 : α)).map G.D := by
    rw [List.map_replicate]
    exact (List.ext_getElem (by simp) fun i h1 h2 => by simp)
  unfold cM st0 pol gnd at *
  (conv in (stAt f_Polyu_mulu.body 2) => whnf)
  simp (decide := true) [hot_glob, hotK, cls_int, cls_bool, cls_str, cls_list, cls_tuple, cls_own, sc_calm, sc_top, sc_lk, sc_N, lk_kind, lk_hasM, lk_hasO, lk_isC, lk_isF, lk_exm, lk_rm, lk_call, hot_slot, hot_tslot, hot_calm, hot_top, bind_ok, bind_ex, bind_no, so_ok, so_ex, so_no, dat_ok, dat_ex, dat_no, pu_ok, pu_ex, pu_no, of_some, of_none, sb_nx, sb_rt, sb_bk, sb_ct, sb_ex, sb_no, oc_ret, oc_ex, ocD_ret, ocD_ex, setSl_pu, setSl_fr, dat_pu, dat_fr, flatV, flatD, runB, runBN, runBI, FnI.start, modI, binI, cmpI, imp2, evSs, evS, evE, evEs, evB, evT, evTs, evHd, evTl, evE1, evLL, evI, evIf, evG, evTg, evH, callN, iterN, noStar, notSet, notComp, notSl, plainO, ownV, isaD, tyOf, knownT, isaT, boolD, intOf, strOf, seqOf, opB, opC, negD, scal, Sf.isNon, hndN, isExcK, isStrK, tgNs, tgOf, setTg, itemD, bltC, blt1, blt2, knB, imp2, listD, opN, cmpI, Lk.knows, isOw, lineOk, isTupE, isLT, look_cons, eqO_ii, eqO_bb, eqO_ss, eqO_in, eqO_ni, eqO_ins, eqO_tup, isRev, revD, itOk, subsetV, tgsOf]
  rw [hr]
  simp only [of_some, bind_ok, wipM]
  rw [if_pos hL, compGo_map (byI fun _ => G.D 0) _ _ [] fun d hd => by
    obtain ⟨k, hk, rfl⟩ := rgD_nat hd
    exact ⟨_, _, _, rfl, rfl, by unfold byI; simp (decide := true) [hot_glob, hotK, cls_int, cls_bool, cls_str, cls_list, cls_tuple, cls_own, sc_calm, sc_top, sc_lk, sc_N, lk_kind, lk_hasM, lk_hasO, lk_isC, lk_isF, lk_exm, lk_rm, lk_call, hot_slot, hot_tslot, hot_calm, hot_top, bind_ok, bind_ex, bind_no, so_ok, so_ex, so_no, dat_ok, dat_ex, dat_no, pu_ok, pu_ex, pu_no, of_some, of_none, sb_nx, sb_rt, sb_bk, sb_ct, sb_ex, sb_no, oc_ret, oc_ex, ocD_ret, ocD_ex, setSl_pu, setSl_fr, dat_pu, dat_fr, flatV, flatD, runB, runBN, runBI, FnI.start, modI, binI, cmpI, imp2, evSs, evS, evE, evEs, evB, evT, evTs, evHd, evTl, evE1, evLL, evI, evIf, evG, evTg, evH, callN, iterN, noStar, notSet, notComp, notSl, plainO, ownV, isaD, tyOf, knownT, isaT, boolD, intOf, strOf, seqOf, opB, opC, negD, scal, Sf.isNon, hndN, isExcK, isStrK, tgNs, tgOf, setTg, itemD, bltC, blt1, blt2, knB, imp2, listD, opN, cmpI, Lk.knows, isOw, lineOk, isTupE, isLT, look_cons, eqO_ii, eqO_bb, eqO_ss, eqO_in, eqO_ni, eqO_ins, eqO_tup, isRev, revD, Gd.D]; first | exact rfl | exact ⟨rfl, rfl⟩, rfl⟩]
  rw [map_byI, ez]
  simp only [List.nil_append, bind_ok, so_ok, bakM, setSl_fr, List.map_replicate]
  rfl
theorem mul3 (f g : List α) (z nu : Sl) (ρ : List Sl) (e : forGo (.many [5, 6]) (fun ρ => evSs bM1 (cM n) ρ) (enD 0 (f.map G.D)) (st0 (pol G f) (pol G g) z nu) = .nx ρ) : evS (.For (lpT m1) (lpI m1) bM1 [] (lpP m1)) (cM n) (st0 (pol G f) (pol G g) z nu) = .nx ρ := by
  unfold cM st0 pol gnd at *
  (conv in (lpT m1) => whnf); (conv in (lpI m1) => whnf)
  simp (decide := true) [hot_glob, hotK, cls_int, cls_bool, cls_str, cls_list, cls_tuple, cls_own, sc_calm, sc_top, sc_lk, sc_N, lk_kind, lk_hasM, lk_hasO, lk_isC, lk_isF, lk_exm, lk_rm, lk_call, hot_slot, hot_tslot, hot_calm, hot_top, bind_ok, bind_ex, bind_no, so_ok, so_ex, so_no, dat_ok, dat_ex, dat_no, pu_ok, pu_ex, pu_no, of_some, of_none, sb_nx, sb_rt, sb_bk, sb_ct, sb_ex, sb_no, oc_ret, oc_ex, ocD_ret, ocD_ex, setSl_pu, setSl_fr, dat_pu, dat_fr, flatV, flatD, runB, runBN, runBI, FnI.start, modI, binI, cmpI, imp2, evSs, evS, evE, evEs, evB, evT, evTs, evHd, evTl, evE1, evLL, evI, evIf, evG, evTg, evH, callN, iterN, noStar, notSet, notComp, notSl, plainO, ownV, isaD, tyOf, knownT, isaT, boolD, intOf, strOf, seqOf, opB, opC, negD, scal, Sf.isNon, hndN, isExcK, isStrK, tgNs, tgOf, setTg, itemD, bltC, blt1, blt2, knB, imp2, listD, opN, cmpI, Lk.knows, isOw, lineOk, isTupE, isLT, look_cons, eqO_ii, eqO_bb, eqO_ss, eqO_in, eqO_ni, eqO_ins, eqO_tup, isRev, revD, enI, e]
theorem mul4 (f g L : List α) (z s4 s5 s6 s7 s8 : Sl) (hl : L.length ≤ 1000) : ∃ ρ, evS (stAt f_Polyu_mulu.body 4) (cM n) [.pu (pol G f), .pu (pol G g), z, .ow false (L.map G.D), s4, s5, s6, s7, s8] = .rt (.pu (pol G (trim L))) ρ := by
  have m := mk_ G n L hl
  unfold cM pol gnd at *
  (conv in (stAt f_Polyu_mulu.body 4) => whnf)
  simp (decide := true) [hot_glob, hotK, cls_int, cls_bool, cls_str, cls_list, cls_tuple, cls_own, sc_calm, sc_top, sc_lk, sc_N, lk_kind, lk_hasM, lk_hasO, lk_isC, lk_isF, lk_exm, lk_rm, lk_call, hot_slot, hot_tslot, hot_calm, hot_top, bind_ok, bind_ex, bind_no, so_ok, so_ex, so_no, dat_ok, dat_ex, dat_no, pu_ok, pu_ex, pu_no, of_some, of_none, sb_nx, sb_rt, sb_bk, sb_ct, sb_ex, sb_no, oc_ret, oc_ex, ocD_ret, ocD_ex, setSl_pu, setSl_fr, dat_pu, dat_fr, flatV, flatD, runB, runBN, runBI, FnI.start, modI, binI, cmpI, imp2, evSs, evS, evE, evEs, evB, evT, evTs, evHd, evTl, evE1, evLL, evI, evIf, evG, evTg, evH, callN, iterN, noStar, notSet, notComp, notSl, plainO, ownV, isaD, tyOf, knownT, isaT, boolD, intOf, strOf, seqOf, opB, opC, negD, scal, Sf.isNon, hndN, isExcK, isStrK, tgNs, tgOf, setTg, itemD, bltC, blt1, blt2, knB, imp2, listD, opN, cmpI, Lk.knows, isOw, lineOk, isTupE, isLT, look_cons, eqO_ii, eqO_bb, eqO_ss, eqO_in, eqO_ni, eqO_ins, eqO_tup, isRev, revD, m]
theorem mul_ {s t : Nat} (f g : List α) (hf : SzL G s f) (hg : SzL G t g) (hst : 1 + f.length * (s + t + 1) ≤ 8500) (lf : f.length ≤ 400) (lg : g.length ≤ 400) :
    (evD T (n + 9)).mt "Poly" "__mul__" [pol G f, pol G g] = .ret (.pu (pol G (trim (prodL f g)))) := by
  have hs0 : SzL G 1 (List.replicate (f.length + g.length) (0 : α)) := fun j => by rw [co_rep]; exact G.sz0
  obtain ⟨s5, s6, s7, s8, e⟩ := outer_go G n (G.D 0) f g .no hg f 0 1 (List.replicate (f.length + g.length) 0) .no .no .no .no (fun x hx => szL_mem G hf hx) hs0 hst (by rw [List.length_replicate]; omega)
  obtain ⟨ρ, e4⟩ := mul4 G n f g (prodL f g) (.pu (G.D 0)) .no s5 s6 s7 s8 (by unfold prodL; rw [outr_len, List.length_replicate]; omega)
  have e3 := mul3 G n f g _ _ _ e
  have hs : f_Polyu_mulu.start ([pol G f, pol G g].map .pu) = st0 (pol G f) (pol G g) .no .no := rfl
  rw [cf_Polyu_mulu]
  unfold runB
  rw [hs, bMul, evSs_cons (mul0 G n f g), evSs_cons (mul1 G n f g), evSs_cons (mul2 G n f g lf lg), evSs_cons e3]
  unfold stM
  show (match (evS (stAt f_Polyu_mulu.body 4) (cM n) [.pu (pol G f), .pu (pol G g), .pu (G.D 0), .ow false ((prodL f g).map G.D), .no, s5, s6, s7, s8]).bind fun ρ1 => evSs [] (cM n) ρ1 with
    | .nx _ => FR.ret (.pu dN)
    | .rt r _ => .ret r
    | .ex x _ => .ex x
    | _ => .no) = _
  rw [e4]
  rfl
end
end D08
namespace D08
open PySem L2 Sf Pm
section
variable {α : Type} [Lean.Grind.CommRing α] [DecidableEq α] (G : Gd α) (n : Nat)
abbrev wD : Stmt := stAt f__divided.body 5
abbrev bD : List Stmt := whB wD
abbrev fD : Stmt := stAt bD 2
abbrev bD2 : List Stmt := lpB fD
theorem bDv : f__divided.body = [stAt f__divided.body 0, stAt f__divided.body 1, stAt f__divided.body 2, stAt f__divided.body 3, stAt f__divided.body 4, .While (whT wD) bD [] (stP wD), stAt f__divided.body 6] := by kernel_rfl
theorem bDv1 : bD = [stAt bD 0, stAt bD 1, .For (lpT fD) (lpI fD) bD2 [] (lpP fD), stAt bD 3] := by kernel_rfl
abbrev cD : SC := T.sc f__divided (evD T (n + 8))
def stD (f g fac : Dat) (N Q : List α) (s5 s6 s7 : Sl) : List Sl := [.pu f, .pu g, .pu fac, .ow false (N.map G.D), .ow false (Q.map G.D), s5, s6, s7]
theorem dg_ (k : Nat) {g : List α} {d : Nat} (hg : g.length = d + 1) : (evD T (k + 1)).mt "Poly" "degree" [pol G g] = .ret (.pu (dI (d : Int))) := by
  rw [deg_ G k g, hg]
  congr 3
  omega
theorem dT (f fac : Dat) {g : List α} {d : Nat} (hg : g.length = d + 1) (N Q : List α) (s5 s6 s7 : Sl) : evT (whT wD) (cD n) (stD G f (pol G g) fac N Q s5 s6 s7) (evE (whT wD) (cD n) (stD G f (pol G g) fac N Q s5 s6 s7)) = .ok (decide (d < N.length)) (stD G f (pol G g) fac N Q s5 s6 s7) := by
  have h := dg_ G (n + 7) hg
  have e : decide (d < N.length) = decide ((d : Int) < (N.length : Int)) := decide_eq_decide.mpr (by omega)
  rw [e]
  unfold cD stD pol gnd at *
  (conv in (whT wD) => whnf)
  simp (decide := true) [hot_glob, hotK, cls_int, cls_bool, cls_str, cls_list, cls_tuple, cls_own, sc_calm, sc_top, sc_lk, sc_N, lk_kind, lk_hasM, lk_hasO, lk_isC, lk_isF, lk_exm, lk_rm, lk_call, hot_slot, hot_tslot, hot_calm, hot_top, bind_ok, bind_ex, bind_no, so_ok, so_ex, so_no, dat_ok, dat_ex, dat_no, pu_ok, pu_ex, pu_no, of_some, of_none, sb_nx, sb_rt, sb_bk, sb_ct, sb_ex, sb_no, oc_ret, oc_ex, ocD_ret, ocD_ex, setSl_pu, setSl_fr, dat_pu, dat_fr, flatV, flatD, runB, runBN, runBI, FnI.start, modI, binI, cmpI, imp2, evSs, evS, evE, evEs, evB, evT, evTs, evHd, evTl, evE1, evLL, evI, evIf, evG, evTg, evH, callN, iterN, noStar, notSet, notComp, notSl, plainO, ownV, isaD, tyOf, knownT, isaT, boolD, intOf, strOf, seqOf, opB, opC, negD, scal, Sf.isNon, hndN, isExcK, isStrK, tgNs, tgOf, setTg, itemD, bltC, blt1, blt2, knB, imp2, listD, opN, cmpI, Lk.knows, isOw, lineOk, isTupE, isLT, look_cons, eqO_ii, eqO_bb, eqO_ss, eqO_in, eqO_ni, eqO_ins, eqO_tup, isRev, revD, h]
theorem dB0 (f g : Dat) {s t : Nat} (fac : α) (N : List α) (x : α) (Q : List α) (s5 s6 s7 : Sl) (hx : G.Sz s x) (hf : G.Sz t fac) (h : s + t ≤ 8500) : evS (stAt bD 0) (cD n) (stD G f g (G.D fac) (N ++ [x]) Q s5 s6 s7) = .nx (stD G f g (G.D fac) N Q (.pu (G.D (x * fac))) s6 s7) := by
  have h1 := G.mul (n + 2) hx hf h
  have h2 := popD_last (N.map G.D) (G.D x)
  have om := G.om
  simp only [Gd.D] at h2
  unfold cD stD at *
  rw [List.map_append, List.map_cons, List.map_nil]
  (conv in (stAt bD 0) => whnf)
  simp (decide := true) [hot_glob, hotK, cls_int, cls_bool, cls_str, cls_list, cls_tuple, cls_own, sc_calm, sc_top, sc_lk, sc_N, lk_kind, lk_hasM, lk_hasO, lk_isC, lk_isF, lk_exm, lk_rm, lk_call, hot_slot, hot_tslot, hot_calm, hot_top, bind_ok, bind_ex, bind_no, so_ok, so_ex, so_no, dat_ok, dat_ex, dat_no, pu_ok, pu_ex, pu_no, of_some, of_none, sb_nx, sb_rt, sb_bk, sb_ct, sb_ex, sb_no, oc_ret, oc_ex, ocD_ret, ocD_ex, setSl_pu, setSl_fr, dat_pu, dat_fr, flatV, flatD, runB, runBN, runBI, FnI.start, modI, binI, cmpI, imp2, evSs, evS, evE, evEs, evB, evT, evTs, evHd, evTl, evE1, evLL, evI, evIf, evG, evTg, evH, callN, iterN, noStar, notSet, notComp, notSl, plainO, ownV, isaD, tyOf, knownT, isaT, boolD, intOf, strOf, seqOf, opB, opC, negD, scal, Sf.isNon, hndN, isExcK, isStrK, tgNs, tgOf, setTg, itemD, bltC, blt1, blt2, knB, imp2, listD, opN, cmpI, Lk.knows, isOw, lineOk, isTupE, isLT, look_cons, eqO_ii, eqO_bb, eqO_ss, eqO_in, eqO_ni, eqO_ins, eqO_tup, isRev, revD, h1, h2, om, ownM, Gd.D]
theorem dB1 (f fac : Dat) {g : List α} {d : Nat} (hg : g.length = d + 1) (N Q : List α) (s5 s6 s7 : Sl) (hd : d ≤ N.length) : evS (stAt bD 1) (cD n) (stD G f (pol G g) fac N Q s5 s6 s7) = .nx (stD G f (pol G g) fac N Q s5 (.pu (dI ((N.length - d : Nat) : Int))) s7) := by
  have h := dg_ G (n + 7) hg
  have e : ((N.length - d : Nat) : Int) = (N.length : Int) - (d : Int) := by omega
  rw [e]
  unfold cD stD pol gnd at *
  (conv in (stAt bD 1) => whnf)
  simp (decide := true) [hot_glob, hotK, cls_int, cls_bool, cls_str, cls_list, cls_tuple, cls_own, sc_calm, sc_top, sc_lk, sc_N, lk_kind, lk_hasM, lk_hasO, lk_isC, lk_isF, lk_exm, lk_rm, lk_call, hot_slot, hot_tslot, hot_calm, hot_top, bind_ok, bind_ex, bind_no, so_ok, so_ex, so_no, dat_ok, dat_ex, dat_no, pu_ok, pu_ex, pu_no, of_some, of_none, sb_nx, sb_rt, sb_bk, sb_ct, sb_ex, sb_no, oc_ret, oc_ex, ocD_ret, ocD_ex, setSl_pu, setSl_fr, dat_pu, dat_fr, flatV, flatD, runB, runBN, runBI, FnI.start, modI, binI, cmpI, imp2, evSs, evS, evE, evEs, evB, evT, evTs, evHd, evTl, evE1, evLL, evI, evIf, evG, evTg, evH, callN, iterN, noStar, notSet, notComp, notSl, plainO, ownV, isaD, tyOf, knownT, isaT, boolD, intOf, strOf, seqOf, opB, opC, negD, scal, Sf.isNon, hndN, isExcK, isStrK, tgNs, tgOf, setTg, itemD, bltC, blt1, blt2, knB, imp2, listD, opN, cmpI, Lk.knows, isOw, lineOk, isTupE, isLT, look_cons, eqO_ii, eqO_bb, eqO_ss, eqO_in, eqO_ni, eqO_ins, eqO_tup, isRev, revD, h]
theorem dB3 (f g fac c : Dat) (x : α) (N Q : List α) (s6 s7 : Sl) (hQ : Q.length < 1000) : evS (stAt bD 3) (cD n) (stD G f g fac N Q (.pu (G.D x)) s6 s7) = .nx (stD G f g fac N (Q ++ [x]) (.pu (G.D x)) s6 s7) := by
  have h : Q.length < 100000 := by omega
  unfold cD stD at *
  rw [List.map_append, List.map_cons, List.map_nil]
  (conv in (stAt bD 3) => whnf)
  simp (decide := true) [hot_glob, hotK, cls_int, cls_bool, cls_str, cls_list, cls_tuple, cls_own, sc_calm, sc_top, sc_lk, sc_N, lk_kind, lk_hasM, lk_hasO, lk_isC, lk_isF, lk_exm, lk_rm, lk_call, hot_slot, hot_tslot, hot_calm, hot_top, bind_ok, bind_ex, bind_no, so_ok, so_ex, so_no, dat_ok, dat_ex, dat_no, pu_ok, pu_ex, pu_no, of_some, of_none, sb_nx, sb_rt, sb_bk, sb_ct, sb_ex, sb_no, oc_ret, oc_ex, ocD_ret, ocD_ex, setSl_pu, setSl_fr, dat_pu, dat_fr, flatV, flatD, runB, runBN, runBI, FnI.start, modI, binI, cmpI, imp2, evSs, evS, evE, evEs, evB, evT, evTs, evHd, evTl, evE1, evLL, evI, evIf, evG, evTg, evH, callN, iterN, noStar, notSet, notComp, notSl, plainO, ownV, isaD, tyOf, knownT, isaT, boolD, intOf, strOf, seqOf, opB, opC, negD, scal, Sf.isNon, hndN, isExcK, isStrK, tgNs, tgOf, setTg, itemD, bltC, blt1, blt2, knB, imp2, listD, opN, cmpI, Lk.knows, isOw, lineOk, isTupE, isLT, look_cons, eqO_ii, eqO_bb, eqO_ss, eqO_in, eqO_ni, eqO_ins, eqO_tup, isRev, revD, h]
theorem dIn {s t u : Nat} (f fac : Dat) (g N Q : List α) (c : α) (sh k : Nat) (s7 : Sl) (h : sh + k < N.length) (hk : k < g.length) (hN : G.Sz s (co N (sh + k))) (hc : G.Sz t c) (hg : G.Sz u (co g k)) (hst : s + (t + u) ≤ 8500) :
    evSs bD2 (cD n) ((stD G f (pol G g) fac N Q (.pu (G.D c)) (.pu (dI (sh : Int))) s7).set 7 (.pu (dI (k : Int)))) = .nx (stD G f (pol G g) fac (N.set (sh + k) (co N (sh + k) - c * co g k)) Q (.pu (G.D c)) (.pu (dI (sh : Int))) (.pu (dI (k : Int)))) := by
  have h1 : ixN N.length ((sh : Int) + (k : Int)) = some (sh + k) := by rw [← Int.natCast_add]; exact ixN_nat h
  have h2 : N[sh + k]? = some (co N (sh + k)) := by rw [co_lt h, List.getElem?_eq_getElem h]
  have h3 : g[k]? = some (co g k) := by rw [co_lt hk, List.getElem?_eq_getElem hk]
  have h4 : ixN g.length (k : Int) = some k := ixN_nat hk
  have h5 := G.mul (n + 2) hc hg (by omega)
  have h6 := G.sub (n + 2) hN (G.szM hc hg) hst
  have om := G.om
  have os := G.os
  unfold cD stD pol gnd at *
  rw [List.map_set]
  generalize co N (sh + k) = w at *
  generalize co g k = v at *
  (conv in (bD2) => whnf)
  simp (decide := true) [hot_glob, hotK, cls_int, cls_bool, cls_str, cls_list, cls_tuple, cls_own, sc_calm, sc_top, sc_lk, sc_N, lk_kind, lk_hasM, lk_hasO, lk_isC, lk_isF, lk_exm, lk_rm, lk_call, hot_slot, hot_tslot, hot_calm, hot_top, bind_ok, bind_ex, bind_no, so_ok, so_ex, so_no, dat_ok, dat_ex, dat_no, pu_ok, pu_ex, pu_no, of_some, of_none, sb_nx, sb_rt, sb_bk, sb_ct, sb_ex, sb_no, oc_ret, oc_ex, ocD_ret, ocD_ex, setSl_pu, setSl_fr, dat_pu, dat_fr, flatV, flatD, runB, runBN, runBI, FnI.start, modI, binI, cmpI, imp2, evSs, evS, evE, evEs, evB, evT, evTs, evHd, evTl, evE1, evLL, evI, evIf, evG, evTg, evH, callN, iterN, noStar, notSet, notComp, notSl, plainO, ownV, isaD, tyOf, knownT, isaT, boolD, intOf, strOf, seqOf, opB, opC, negD, scal, Sf.isNon, hndN, isExcK, isStrK, tgNs, tgOf, setTg, itemD, bltC, blt1, blt2, knB, imp2, listD, opN, cmpI, Lk.knows, isOw, lineOk, isTupE, isLT, look_cons, eqO_ii, eqO_bb, eqO_ss, eqO_in, eqO_ni, eqO_ins, eqO_tup, isRev, revD, h1, h2, h3, h4, h5, h6, om, os, Gd.D]
end
end D08
namespace D08
open PySem L2 Sf Pm
section
variable {α : Type} [Lean.Grind.CommRing α] [DecidableEq α] (G : Gd α) (n : Nat)
theorem rgD_at {k j : Nat} {d : Dat} (h : (rgD 0 1 k)[j]? = some d) : d = dI (j : Int) ∧ j < k := by
  obtain ⟨h1, h2⟩ := rgD_get h
  exact ⟨by rw [h1]; congr 2; omega, h2⟩
/-- the inner loop -/
theorem dLoop {s t u : Nat} (f fac : Dat) (g N Q : List α) (c : α) (sh d : Nat) (s7 : Sl) (h : sh + d ≤ N.length) (hd : d < g.length) (hN : SzL G s N) (hc : G.Sz t c) (hg : SzL G u g) (hst : s + (t + u) ≤ 8500) :
    ∃ s7', forGo (.one 7) (fun ρ => evSs bD2 (cD n) ρ) (rgD 0 1 d) (stD G f (pol G g) fac N Q (.pu (G.D c)) (.pu (dI (sh : Int))) s7) = .nx (stD G f (pol G g) fac (sub1 g c sh d N) Q (.pu (G.D c)) (.pu (dI (sh : Int))) s7') := by
  obtain ⟨ρ', e, h1, s7', rfl⟩ := forGo_inv (tg := .one 7) (body := fun ρ => evSs bD2 (cD n) ρ) (fun j ρ => j ≤ d ∧ ∃ s7', ρ = stD G f (pol G g) fac (sub1 g c sh j N) Q (.pu (G.D c)) (.pu (dI (sh : Int))) s7') (rgD 0 1 d) 0 _ ⟨Nat.zero_le _, s7, rfl⟩ fun j dd ρ hj hi => by
    obtain ⟨rfl, hj⟩ := rgD_at hj
    obtain ⟨hi, s7', rfl⟩ := hi
    rw [Nat.zero_add] at hi ⊢
    have hs : G.Sz s (co (sub1 g c sh j N) (sh + j)) := by
      rw [sub1_co g c sh j N (sh + j) (by omega), if_neg (by omega)]
      have : co N (sh + j) - 0 = co N (sh + j) := by grind
      rw [this]
      exact hN _
    exact ⟨_, _, rfl, .inl (dIn G n f fac g (sub1 g c sh j N) Q c sh j s7' (by rw [sub1_len]; omega) (by omega) hs hc (hg j) hst), by omega, _, rfl⟩
  refine ⟨s7', ?_⟩
  rw [rgD_length, Nat.zero_add] at e
  exact e
theorem dFor (f fac : Dat) {g : List α} {d : Nat} (hg : g.length = d + 1) (hd : d < 900) (N Q : List α) (s5 s6 s7 : Sl) (ρ : List Sl) (e : forGo (.one 7) (fun ρ => evSs bD2 (cD n) ρ) (rgD 0 1 d) (stD G f (pol G g) fac N Q s5 s6 s7) = .nx ρ) :
    evS (.For (lpT fD) (lpI fD) bD2 [] (lpP fD)) (cD n) (stD G f (pol G g) fac N Q s5 s6 s7) = .nx ρ := by
  have h := dg_ G (n + 7) hg
  have hr := rngN d (by omega)
  unfold cD stD pol gnd at *
  (conv in (lpT fD) => whnf); (conv in (lpI fD) => whnf)
  simp (decide := true) [hot_glob, hotK, cls_int, cls_bool, cls_str, cls_list, cls_tuple, cls_own, sc_calm, sc_top, sc_lk, sc_N, lk_kind, lk_hasM, lk_hasO, lk_isC, lk_isF, lk_exm, lk_rm, lk_call, hot_slot, hot_tslot, hot_calm, hot_top, bind_ok, bind_ex, bind_no, so_ok, so_ex, so_no, dat_ok, dat_ex, dat_no, pu_ok, pu_ex, pu_no, of_some, of_none, sb_nx, sb_rt, sb_bk, sb_ct, sb_ex, sb_no, oc_ret, oc_ex, ocD_ret, ocD_ex, setSl_pu, setSl_fr, dat_pu, dat_fr, flatV, flatD, runB, runBN, runBI, FnI.start, modI, binI, cmpI, imp2, evSs, evS, evE, evEs, evB, evT, evTs, evHd, evTl, evE1, evLL, evI, evIf, evG, evTg, evH, callN, iterN, noStar, notSet, notComp, notSl, plainO, ownV, isaD, tyOf, knownT, isaT, boolD, intOf, strOf, seqOf, opB, opC, negD, scal, Sf.isNon, hndN, isExcK, isStrK, tgNs, tgOf, setTg, itemD, bltC, blt1, blt2, knB, imp2, listD, opN, cmpI, Lk.knows, isOw, lineOk, isTupE, isLT, look_cons, eqO_ii, eqO_bb, eqO_ss, eqO_in, eqO_ni, eqO_ins, eqO_tup, isRev, revD, h]
  rw [hr]
  exact e
/-- one turn -/
theorem dTurn {s t u : Nat} (f : Dat) {g : List α} {d : Nat} (hg : g.length = d + 1) (hd : d < 900) (fac : α) (N : List α) (x : α) (Q : List α) (s5 s6 s7 : Sl) (hl : d ≤ N.length) (hN : SzL G s (N ++ [x])) (hf : G.Sz t fac) (hu : SzL G u g) (hst : s + (s + t + u) ≤ 8500) (hQ : Q.length < 1000) :
    ∃ s5' s6' s7', evSs bD (cD n) (stD G f (pol G g) (G.D fac) (N ++ [x]) Q s5 s6 s7) = .nx (stD G f (pol G g) (G.D fac) (sub1 g (x * fac) (N.length - d) d N) (Q ++ [x * fac]) s5' s6' s7') := by
  have hx : G.Sz s x := szL_mem G hN (by simp)
  have hN' : SzL G s N := fun j => by
    by_cases hj : j < N.length
    · have := hN j
      rwa [co_append, if_neg (by omega)] at this
    · rw [co_ge (by omega)]
      have := hN (N.length + 1)
      rwa [co_ge (by simp)] at this
  have hc := G.szM hx hf
  obtain ⟨t7, e2⟩ := dLoop G n f (G.D fac) g N Q (x * fac) (N.length - d) d s7 (by omega) (by omega) hN' hc hu hst
  have e0 := dB0 G n f (pol G g) fac N x Q s5 s6 s7 hx hf (by omega)
  have e1 := dB1 G n f (G.D fac) hg N Q (.pu (G.D (x * fac))) s6 s7 hl
  have e2' := dFor G n f (G.D fac) hg hd N Q _ _ _ _ e2
  have e3 := dB3 G n f (pol G g) (G.D fac) dN (x * fac) (sub1 g (x * fac) (N.length - d) d N) Q (.pu (dI ((N.length - d : Nat) : Int))) t7 hQ
  refine ⟨.pu (G.D (x * fac)), .pu (dI ((N.length - d : Nat) : Int)), t7, ?_⟩
  rw [bDv1, evSs_cons e0, evSs_cons e1, evSs_cons e2', evSs_cons e3]
  rfl
theorem sub_sz {s t u : Nat} (g N : List α) (c : α) (sh d : Nat) (h : sh + d ≤ N.length) (hN : SzL G s N) (hc : G.Sz t c) (hg : SzL G u g) : SzL G (s + (t + u) + 1) (sub1 g c sh d N) := fun j => by
  rw [sub1_co g c sh d N j h]
  by_cases e : sh ≤ j ∧ j < sh + d
  · rw [if_pos e]; exact G.szS (hN j) (G.szM hc (hg _))
  · rw [if_neg e]
    have : co N j - 0 = co N j := by grind
    rw [this]
    exact G.mono (hN j) (by omega)
theorem szL_app {s : Nat} {Q : List α} {x : α} (h : SzL G s Q) (hx : G.Sz s x) : SzL G s (Q ++ [x]) := fun j => by
  rw [co_append]
  split
  · exact hx
  · exact h j
/-- the loop: as divGo; all numbers that come are short -/
theorem dWhile {t u : Nat} (f : Dat) {g : List α} {d : Nat} (hg : g.length = d + 1) (hd : d < 900) (fac : α) (hf : G.Sz t fac) (hu : SzL G u g) : ∀ (m : Nat) (N Q : List α) (s S : Nat) (k : Nat) (s5 s6 s7 : Sl), N.length ≤ m → m < k → SzL G s N → SzL G S Q → 2 ^ m * (s + t + u + 1) ≤ S → S ≤ 8000 → Q.length + m < 1000 →
    ∃ s5' s6' s7', whileGo (fun ρ => evT (whT wD) (cD n) ρ (evE (whT wD) (cD n) ρ)) (fun ρ => evSs bD (cD n) ρ) k (stD G f (pol G g) (G.D fac) N Q s5 s6 s7) = .nx (stD G f (pol G g) (G.D fac) (divGo g fac d m (N, Q)).1 (divGo g fac d m (N, Q)).2 s5' s6' s7') ∧ SzL G S (divGo g fac d m (N, Q)).1 ∧ SzL G S (divGo g fac d m (N, Q)).2
  | m, N, Q, s, S, 0, s5, s6, s7, _, hk, _, _, _, _, _ => absurd hk (by omega)
  | m, N, Q, s, S, k + 1, s5, s6, s7, hm, hk, hN, hQ, hB, hS, hql => by
    have h2 : 1 ≤ 2 ^ m := Nat.one_le_two_pow
    have hsS : s ≤ S := by
      have : 1 * (s + t + u + 1) ≤ 2 ^ m * (s + t + u + 1) := Nat.mul_le_mul_right _ h2
      omega
    unfold whileGo
    rw [dT G n f (G.D fac) hg N Q s5 s6 s7]
    by_cases h : d < N.length
    · rw [decide_eq_true h]
      dsimp only
      obtain ⟨m', rfl⟩ : ∃ m', m = m' + 1 := ⟨m - 1, by omega⟩
      rcases List.eq_nil_or_concat N with rfl | ⟨N', x, rfl⟩
      · simp at h
      · simp only [List.concat_eq_append] at *
        have hlen : (N' ++ [x]).length = N'.length + 1 := by simp
        rw [hlen] at hm h
        have hB2 : 2 ^ m' * (2 * (s + t + u + 1)) ≤ S := by
          rw [Nat.pow_succ, Nat.mul_assoc] at hB
          exact hB
        have hp : 1 ≤ 2 ^ m' := Nat.one_le_two_pow
        have hB3 : 2 * (s + t + u + 1) ≤ S := by
          have : 1 * (2 * (s + t + u + 1)) ≤ 2 ^ m' * (2 * (s + t + u + 1)) := Nat.mul_le_mul_right _ hp
          omega
        obtain ⟨t5, t6, t7, e⟩ := dTurn G n f hg hd fac N' x Q s5 s6 s7 (by omega) hN hf hu (by omega) (by omega)
        rw [e]
        dsimp only
        have hx : G.Sz s x := szL_mem G hN (by simp)
        have hN' : SzL G s N' := fun j => by
          by_cases hj : j < N'.length
          · have := hN j
            rwa [co_append, if_neg (by omega)] at this
          · rw [co_ge (by omega)]
            have := hN (N'.length + 1)
            rwa [co_ge (by simp)] at this
        have hc := G.szM hx hf
        have hz := sub_sz G g N' (x * fac) (N'.length - d) d (by omega) hN' hc hu
        obtain ⟨u5, u6, u7, e2, e3, e4⟩ := dWhile f hg hd fac hf hu m' (sub1 g (x * fac) (N'.length - d) d N') (Q ++ [x * fac]) (s + (s + t + u) + 1) S k t5 t6 t7 (by rw [sub1_len]; omega) (by omega) hz (szL_app G hQ (G.mono hc (by omega))) (by
          have : s + (s + t + u) + 1 + t + u + 1 = 2 * (s + t + u + 1) := by omega
          rw [this]
          exact hB2) hS (by rw [List.length_append, List.length_singleton]; omega)
        have ed : divGo g fac d (m' + 1) (N' ++ [x], Q) = divGo g fac d m' (sub1 g (x * fac) (N'.length - d) d N', Q ++ [x * fac]) := by
          rw [divGo, if_pos (by rw [hlen]; exact h)]
          have h1 : (N' ++ [x]).dropLast = N' := by simp
          have h2 : co (N' ++ [x]) ((N' ++ [x]).length - 1) = x := by rw [hlen, co_append, if_pos (by omega)]
          simp only [h1, h2]
        rw [ed]
        exact ⟨u5, u6, u7, e2, e3, e4⟩
    · rw [decide_eq_false h]
      have ed : divGo g fac d m (N, Q) = (N, Q) := by
        cases m with
        | zero => rfl
        | succ m => rw [divGo, if_neg h]
      rw [ed]
      exact ⟨s5, s6, s7, rfl, fun j => G.mono (hN j) hsS, hQ⟩
end
end D08
namespace D08
open PySem L2 Sf Pm
section
variable {α : Type} [Lean.Grind.CommRing α] [DecidableEq α] (G : Gd α) (n : Nat)
def sd0 (f g : Dat) (s2 s3 s4 : Sl) : List Sl := [.pu f, .pu g, s2, s3, s4, .no, .no, .no]
theorem dv0 (f g : List α) : evS (stAt f__divided.body 0) (cD n) (sd0 (pol G f) (pol G g) .no .no .no) = .nx (sd0 (pol G f) (pol G g) .no .no .no) := by
  have lk := like_ G (n + 6) f g
  unfold cD sd0 pol gnd at *
  (conv in (stAt f__divided.body 0) => whnf)
  simp (decide := true) [hot_glob, hotK, cls_int, cls_bool, cls_str, cls_list, cls_tuple, cls_own, sc_calm, sc_top, sc_lk, sc_N, lk_kind, lk_hasM, lk_hasO, lk_isC, lk_isF, lk_exm, lk_rm, lk_call, hot_slot, hot_tslot, hot_calm, hot_top, bind_ok, bind_ex, bind_no, so_ok, so_ex, so_no, dat_ok, dat_ex, dat_no, pu_ok, pu_ex, pu_no, of_some, of_none, sb_nx, sb_rt, sb_bk, sb_ct, sb_ex, sb_no, oc_ret, oc_ex, ocD_ret, ocD_ex, setSl_pu, setSl_fr, dat_pu, dat_fr, flatV, flatD, runB, runBN, runBI, FnI.start, modI, binI, cmpI, imp2, evSs, evS, evE, evEs, evB, evT, evTs, evHd, evTl, evE1, evLL, evI, evIf, evG, evTg, evH, callN, iterN, noStar, notSet, notComp, notSl, plainO, ownV, isaD, tyOf, knownT, isaT, boolD, intOf, strOf, seqOf, opB, opC, negD, scal, Sf.isNon, hndN, isExcK, isStrK, tgNs, tgOf, setTg, itemD, bltC, blt1, blt2, knB, imp2, listD, opN, cmpI, Lk.knows, isOw, lineOk, isTupE, isLT, look_cons, eqO_ii, eqO_bb, eqO_ss, eqO_in, eqO_ni, eqO_ins, eqO_tup, isRev, revD, lk]
theorem dv1 (f g : List α) (h : g ≠ []) : evS (stAt f__divided.body 1) (cD n) (sd0 (pol G f) (pol G g) .no .no .no) = .nx (sd0 (pol G f) (pol G g) .no .no .no) := by
  have hz := isz_ G (n + 7) g
  rw [decide_eq_false h] at hz
  unfold cD sd0 pol gnd at *
  (conv in (stAt f__divided.body 1) => whnf)
  simp (decide := true) [hot_glob, hotK, cls_int, cls_bool, cls_str, cls_list, cls_tuple, cls_own, sc_calm, sc_top, sc_lk, sc_N, lk_kind, lk_hasM, lk_hasO, lk_isC, lk_isF, lk_exm, lk_rm, lk_call, hot_slot, hot_tslot, hot_calm, hot_top, bind_ok, bind_ex, bind_no, so_ok, so_ex, so_no, dat_ok, dat_ex, dat_no, pu_ok, pu_ex, pu_no, of_some, of_none, sb_nx, sb_rt, sb_bk, sb_ct, sb_ex, sb_no, oc_ret, oc_ex, ocD_ret, ocD_ex, setSl_pu, setSl_fr, dat_pu, dat_fr, flatV, flatD, runB, runBN, runBI, FnI.start, modI, binI, cmpI, imp2, evSs, evS, evE, evEs, evB, evT, evTs, evHd, evTl, evE1, evLL, evI, evIf, evG, evTg, evH, callN, iterN, noStar, notSet, notComp, notSl, plainO, ownV, isaD, tyOf, knownT, isaT, boolD, intOf, strOf, seqOf, opB, opC, negD, scal, Sf.isNon, hndN, isExcK, isStrK, tgNs, tgOf, setTg, itemD, bltC, blt1, blt2, knB, imp2, listD, opN, cmpI, Lk.knows, isOw, lineOk, isTupE, isLT, look_cons, eqO_ii, eqO_bb, eqO_ss, eqO_in, eqO_ni, eqO_ins, eqO_tup, isRev, revD, hz]
theorem dv1z (f : List α) : evS (stAt f__divided.body 1) (cD n) (sd0 (pol G f) (pol G []) .no .no .no) = .ex zdv (sd0 (pol G f) (pol G []) .no .no .no) := by
  have hz := isz_ G (n + 7) []
  rw [decide_eq_true rfl] at hz
  unfold cD sd0 pol gnd zdv at *
  rw [List.map_nil] at *
  (conv in (stAt f__divided.body 1) => whnf)
  simp (decide := true) [hot_glob, hotK, cls_int, cls_bool, cls_str, cls_list, cls_tuple, cls_own, sc_calm, sc_top, sc_lk, sc_N, lk_kind, lk_hasM, lk_hasO, lk_isC, lk_isF, lk_exm, lk_rm, lk_call, hot_slot, hot_tslot, hot_calm, hot_top, bind_ok, bind_ex, bind_no, so_ok, so_ex, so_no, dat_ok, dat_ex, dat_no, pu_ok, pu_ex, pu_no, of_some, of_none, sb_nx, sb_rt, sb_bk, sb_ct, sb_ex, sb_no, oc_ret, oc_ex, ocD_ret, ocD_ex, setSl_pu, setSl_fr, dat_pu, dat_fr, flatV, flatD, runB, runBN, runBI, FnI.start, modI, binI, cmpI, imp2, evSs, evS, evE, evEs, evB, evT, evTs, evHd, evTl, evE1, evLL, evI, evIf, evG, evTg, evH, callN, iterN, noStar, notSet, notComp, notSl, plainO, ownV, isaD, tyOf, knownT, isaT, boolD, intOf, strOf, seqOf, opB, opC, negD, scal, Sf.isNon, hndN, isExcK, isStrK, tgNs, tgOf, setTg, itemD, bltC, blt1, blt2, knB, imp2, listD, opN, cmpI, Lk.knows, isOw, lineOk, isTupE, isLT, look_cons, eqO_ii, eqO_bb, eqO_ss, eqO_in, eqO_ni, eqO_ins, eqO_tup, isRev, revD, hz]
theorem dv2 {s : Nat} (f g : List α) (x : α) (hx : G.Sz s x) (h0 : x ≠ 0) (hs : s ≤ 8500) : evS (stAt f__divided.body 2) (cD n) (sd0 (pol G f) (pol G (g ++ [x])) .no .no .no) = .nx (sd0 (pol G f) (pol G (g ++ [x])) (.pu (G.D (G.inv x))) .no .no) := by
  have h3 := G.iv n hx h0 hs
  have h4 := ixN_last g.length
  have h5 : (g.map G.D ++ [G.D x])[g.length]? = some (G.D x) := by rw [List.getElem?_append_right (by simp)]; simp
  have h6 := G.hi
  have h7 := G.ki
  simp only [Gd.D] at h5
  unfold cD sd0 pol gnd at *
  rw [List.map_append, List.map_cons, List.map_nil] at *
  (conv in (stAt f__divided.body 2) => whnf)
  simp (decide := true) [hot_glob, hotK, cls_int, cls_bool, cls_str, cls_list, cls_tuple, cls_own, sc_calm, sc_top, sc_lk, sc_N, lk_kind, lk_hasM, lk_hasO, lk_isC, lk_isF, lk_exm, lk_rm, lk_call, hot_slot, hot_tslot, hot_calm, hot_top, bind_ok, bind_ex, bind_no, so_ok, so_ex, so_no, dat_ok, dat_ex, dat_no, pu_ok, pu_ex, pu_no, of_some, of_none, sb_nx, sb_rt, sb_bk, sb_ct, sb_ex, sb_no, oc_ret, oc_ex, ocD_ret, ocD_ex, setSl_pu, setSl_fr, dat_pu, dat_fr, flatV, flatD, runB, runBN, runBI, FnI.start, modI, binI, cmpI, imp2, evSs, evS, evE, evEs, evB, evT, evTs, evHd, evTl, evE1, evLL, evI, evIf, evG, evTg, evH, callN, iterN, noStar, notSet, notComp, notSl, plainO, ownV, isaD, tyOf, knownT, isaT, boolD, intOf, strOf, seqOf, opB, opC, negD, scal, Sf.isNon, hndN, isExcK, isStrK, tgNs, tgOf, setTg, itemD, bltC, blt1, blt2, knB, imp2, listD, opN, cmpI, Lk.knows, isOw, lineOk, isTupE, isLT, look_cons, eqO_ii, eqO_bb, eqO_ss, eqO_in, eqO_ni, eqO_ins, eqO_tup, isRev, revD, h3, h4, h5, h6, h7, Gd.D]
theorem dv3 (f g : List α) (s2 : Sl) : evS (stAt f__divided.body 3) (cD n) (sd0 (pol G f) (pol G g) s2 .no .no) = .nx (sd0 (pol G f) (pol G g) s2 (.ow false (f.map G.D)) .no) := by
  unfold cD sd0 pol gnd at *
  (conv in (stAt f__divided.body 3) => whnf)
  simp (decide := true) [hot_glob, hotK, cls_int, cls_bool, cls_str, cls_list, cls_tuple, cls_own, sc_calm, sc_top, sc_lk, sc_N, lk_kind, lk_hasM, lk_hasO, lk_isC, lk_isF, lk_exm, lk_rm, lk_call, hot_slot, hot_tslot, hot_calm, hot_top, bind_ok, bind_ex, bind_no, so_ok, so_ex, so_no, dat_ok, dat_ex, dat_no, pu_ok, pu_ex, pu_no, of_some, of_none, sb_nx, sb_rt, sb_bk, sb_ct, sb_ex, sb_no, oc_ret, oc_ex, ocD_ret, ocD_ex, setSl_pu, setSl_fr, dat_pu, dat_fr, flatV, flatD, runB, runBN, runBI, FnI.start, modI, binI, cmpI, imp2, evSs, evS, evE, evEs, evB, evT, evTs, evHd, evTl, evE1, evLL, evI, evIf, evG, evTg, evH, callN, iterN, noStar, notSet, notComp, notSl, plainO, ownV, isaD, tyOf, knownT, isaT, boolD, intOf, strOf, seqOf, opB, opC, negD, scal, Sf.isNon, hndN, isExcK, isStrK, tgNs, tgOf, setTg, itemD, bltC, blt1, blt2, knB, imp2, listD, opN, cmpI, Lk.knows, isOw, lineOk, isTupE, isLT, look_cons, eqO_ii, eqO_bb, eqO_ss, eqO_in, eqO_ni, eqO_ins, eqO_tup, isRev, revD]
theorem dv4 (f g : List α) (s2 s3 : Sl) : evS (stAt f__divided.body 4) (cD n) (sd0 (pol G f) (pol G g) s2 s3 .no) = .nx (sd0 (pol G f) (pol G g) s2 s3 (.ow false [])) := by
  unfold cD sd0 pol gnd at *
  (conv in (stAt f__divided.body 4) => whnf)
  simp (decide := true) [hot_glob, hotK, cls_int, cls_bool, cls_str, cls_list, cls_tuple, cls_own, sc_calm, sc_top, sc_lk, sc_N, lk_kind, lk_hasM, lk_hasO, lk_isC, lk_isF, lk_exm, lk_rm, lk_call, hot_slot, hot_tslot, hot_calm, hot_top, bind_ok, bind_ex, bind_no, so_ok, so_ex, so_no, dat_ok, dat_ex, dat_no, pu_ok, pu_ex, pu_no, of_some, of_none, sb_nx, sb_rt, sb_bk, sb_ct, sb_ex, sb_no, oc_ret, oc_ex, ocD_ret, ocD_ex, setSl_pu, setSl_fr, dat_pu, dat_fr, flatV, flatD, runB, runBN, runBI, FnI.start, modI, binI, cmpI, imp2, evSs, evS, evE, evEs, evB, evT, evTs, evHd, evTl, evE1, evLL, evI, evIf, evG, evTg, evH, callN, iterN, noStar, notSet, notComp, notSl, plainO, ownV, isaD, tyOf, knownT, isaT, boolD, intOf, strOf, seqOf, opB, opC, negD, scal, Sf.isNon, hndN, isExcK, isStrK, tgNs, tgOf, setTg, itemD, bltC, blt1, blt2, knB, imp2, listD, opN, cmpI, Lk.knows, isOw, lineOk, isTupE, isLT, look_cons, eqO_ii, eqO_bb, eqO_ss, eqO_in, eqO_ni, eqO_ins, eqO_tup, isRev, revD]
theorem dv6 (f g N Q : List α) (s2 s5 s6 s7 : Sl) (hN : N.length ≤ 1000) (hQ : Q.length ≤ 1000) : ∃ ρ, evS (stAt f__divided.body 6) (cD n) [.pu (pol G f), .pu (pol G g), s2, .ow false (N.map G.D), .ow false (Q.map G.D), s5, s6, s7] = .rt (.pu (.tup [pol G (trim Q.reverse), pol G (trim N)])) ρ := by
  have m1 := mk_ G n Q.reverse (by rw [List.length_reverse]; exact hQ)
  have m2 := mk_ G n N hN
  rw [List.map_reverse] at m1
  unfold cD pol gnd at *
  (conv in (stAt f__divided.body 6) => whnf)
  simp (decide := true) [hot_glob, hotK, cls_int, cls_bool, cls_str, cls_list, cls_tuple, cls_own, sc_calm, sc_top, sc_lk, sc_N, lk_kind, lk_hasM, lk_hasO, lk_isC, lk_isF, lk_exm, lk_rm, lk_call, hot_slot, hot_tslot, hot_calm, hot_top, bind_ok, bind_ex, bind_no, so_ok, so_ex, so_no, dat_ok, dat_ex, dat_no, pu_ok, pu_ex, pu_no, of_some, of_none, sb_nx, sb_rt, sb_bk, sb_ct, sb_ex, sb_no, oc_ret, oc_ex, ocD_ret, ocD_ex, setSl_pu, setSl_fr, dat_pu, dat_fr, flatV, flatD, runB, runBN, runBI, FnI.start, modI, binI, cmpI, imp2, evSs, evS, evE, evEs, evB, evT, evTs, evHd, evTl, evE1, evLL, evI, evIf, evG, evTg, evH, callN, iterN, noStar, notSet, notComp, notSl, plainO, ownV, isaD, tyOf, knownT, isaT, boolD, intOf, strOf, seqOf, opB, opC, negD, scal, Sf.isNon, hndN, isExcK, isStrK, tgNs, tgOf, setTg, itemD, bltC, blt1, blt2, knB, imp2, listD, opN, cmpI, Lk.knows, isOw, lineOk, isTupE, isLT, look_cons, eqO_ii, eqO_bb, eqO_ss, eqO_in, eqO_ni, eqO_ins, eqO_tup, isRev, revD, m1, m2]
/-- numbers and quotient, at the end -/
def dvR (f g : List α) (x : α) : List α × List α := divGo (g ++ [x]) (G.inv x) g.length f.length (f, [])
theorem divGo_total (g : List α) (fac : α) (d : Nat) : ∀ (m : Nat) (N Q : List α), (divGo g fac d m (N, Q)).1.length + (divGo g fac d m (N, Q)).2.length = N.length + Q.length
  | 0, N, Q => rfl
  | m + 1, N, Q => by
    rw [divGo]
    by_cases h : d < N.length
    · rw [if_pos h]
      rw [divGo_total g fac d m, sub1_len, List.length_append, List.length_singleton, List.length_dropLast]
      omega
    · rw [if_neg h]
theorem dv_ {s u S : Nat} (f g : List α) (x : α) (h0 : x ≠ 0) (hf : SzL G s f) (hg : SzL G u (g ++ [x])) (hB : 2 ^ f.length * (s + u + u + 1) ≤ S) (hS : S ≤ 8000) (hS1 : 1 ≤ S) (lf : f.length ≤ 100) (lg : g.length ≤ 100) (hu : u ≤ 8500) :
    (evD T (n + 9)).fn "_divided" [pol G f, pol G (g ++ [x])] = .ret (.pu (.tup [pol G (trim (dvR G f g x).2.reverse), pol G (trim (dvR G f g x).1)])) ∧ SzL G S (dvR G f g x).1 ∧ SzL G S (dvR G f g x).2 := by
  have hx : G.Sz u x := szL_mem G hg (by simp)
  have hnil : SzL G S ([] : List α) := fun j => by rw [show co ([] : List α) j = 0 from co_ge (Nat.zero_le _)]; exact G.mono G.sz0 hS1
  obtain ⟨s5, s6, s7, e, z1, z2⟩ := dWhile G n (pol G f) (g := g ++ [x]) (d := g.length) (by simp) (by omega) (G.inv x) (G.szI hx h0) hg f.length f [] s S LF .no .no .no (Nat.le_refl _) (Nat.lt_of_le_of_lt lf (by decide)) hf hnil hB hS (by simp; omega)
  have ht := divGo_total (g ++ [x]) (G.inv x) g.length f.length f []
  have e5 : evS (.While (whT wD) bD [] (stP wD)) (cD n) (sd0 (pol G f) (pol G (g ++ [x])) (.pu (G.D (G.inv x))) (.ow false (f.map G.D)) (.ow false [])) = .nx (stD G (pol G f) (pol G (g ++ [x])) (G.D (G.inv x)) (dvR G f g x).1 (dvR G f g x).2 s5 s6 s7) := by
    rw [evS_while]
    exact e
  change (dvR G f g x).1.length + (dvR G f g x).2.length = f.length + 0 at ht
  obtain ⟨ρ, e6⟩ := dv6 G n f (g ++ [x]) (dvR G f g x).1 (dvR G f g x).2 (.pu (G.D (G.inv x))) s5 s6 s7 (by omega) (by omega)
  refine ⟨?_, z1, z2⟩
  have hs : f__divided.start ([pol G f, pol G (g ++ [x])].map .pu) = sd0 (pol G f) (pol G (g ++ [x])) .no .no .no := rfl
  rw [cf__divided]
  unfold runB
  rw [hs, bDv, evSs_cons (dv0 G n f _), evSs_cons (dv1 G n f _ (by simp)), evSs_cons (dv2 G n f g x hx h0 hu), evSs_cons (dv3 G n f _ _), evSs_cons (dv4 G n f _ _ _), evSs_cons e5]
  unfold stD
  show (match (evS (stAt f__divided.body 6) (cD n) [.pu (pol G f), .pu (pol G (g ++ [x])), .pu (G.D (G.inv x)), .ow false ((dvR G f g x).1.map G.D), .ow false ((dvR G f g x).2.map G.D), s5, s6, s7]).bind fun ρ1 => evSs [] (cD n) ρ1 with
    | .nx _ => FR.ret (.pu dN)
    | .rt r _ => .ret r
    | .ex x _ => .ex x
    | _ => .no) = _
  rw [e6]
  rfl
theorem dvz_ (f : List α) : (evD T (n + 9)).fn "_divided" [pol G f, pol G []] = .ex zdv := by
  have hs : f__divided.start ([pol G f, pol G []].map .pu) = sd0 (pol G f) (pol G []) .no .no .no := rfl
  rw [cf__divided]
  unfold runB
  rw [hs, bDv, evSs_cons (dv0 G n f _), evSs, dv1z G n f]
  rfl
theorem fdiv_ (f g : List α) (a b : Dat) (h : (evD T (n + 9)).fn "_divided" [pol G f, pol G g] = .ret (.pu (.tup [a, b]))) : (evD T (n + 10)).mt "Poly" "__floordiv__" [pol G f, pol G g] = .ret (.pu a) := by
  unfold pol gnd at *
  rw [cf_Polyu_floordivu]; simp only [runB, runBN, runBI]; (conv in (FnI.body f_Polyu_floordivu) => whnf); simp (decide := true) [hot_glob, hotK, cls_int, cls_bool, cls_str, cls_list, cls_tuple, cls_own, sc_calm, sc_top, sc_lk, sc_N, lk_kind, lk_hasM, lk_hasO, lk_isC, lk_isF, lk_exm, lk_rm, lk_call, hot_slot, hot_tslot, hot_calm, hot_top, bind_ok, bind_ex, bind_no, so_ok, so_ex, so_no, dat_ok, dat_ex, dat_no, pu_ok, pu_ex, pu_no, of_some, of_none, sb_nx, sb_rt, sb_bk, sb_ct, sb_ex, sb_no, oc_ret, oc_ex, ocD_ret, ocD_ex, setSl_pu, setSl_fr, dat_pu, dat_fr, flatV, flatD, runB, runBN, runBI, FnI.start, modI, binI, cmpI, imp2, evSs, evS, evE, evEs, evB, evT, evTs, evHd, evTl, evE1, evLL, evI, evIf, evG, evTg, evH, callN, iterN, noStar, notSet, notComp, notSl, plainO, ownV, isaD, tyOf, knownT, isaT, boolD, intOf, strOf, seqOf, opB, opC, negD, scal, Sf.isNon, hndN, isExcK, isStrK, tgNs, tgOf, setTg, itemD, bltC, blt1, blt2, knB, imp2, listD, opN, cmpI, Lk.knows, isOw, lineOk, isTupE, isLT, look_cons, eqO_ii, eqO_bb, eqO_ss, eqO_in, eqO_ni, eqO_ins, eqO_tup, isRev, revD, h]
  rfl
theorem mod_ (f g : List α) (a b : Dat) (h : (evD T (n + 9)).fn "_divided" [pol G f, pol G g] = .ret (.pu (.tup [a, b]))) : (evD T (n + 10)).mt "Poly" "__mod__" [pol G f, pol G g] = .ret (.pu b) := by
  unfold pol gnd at *
  rw [cf_Polyu_modu]; simp only [runB, runBN, runBI]; (conv in (FnI.body f_Polyu_modu) => whnf); simp (decide := true) [hot_glob, hotK, cls_int, cls_bool, cls_str, cls_list, cls_tuple, cls_own, sc_calm, sc_top, sc_lk, sc_N, lk_kind, lk_hasM, lk_hasO, lk_isC, lk_isF, lk_exm, lk_rm, lk_call, hot_slot, hot_tslot, hot_calm, hot_top, bind_ok, bind_ex, bind_no, so_ok, so_ex, so_no, dat_ok, dat_ex, dat_no, pu_ok, pu_ex, pu_no, of_some, of_none, sb_nx, sb_rt, sb_bk, sb_ct, sb_ex, sb_no, oc_ret, oc_ex, ocD_ret, ocD_ex, setSl_pu, setSl_fr, dat_pu, dat_fr, flatV, flatD, runB, runBN, runBI, FnI.start, modI, binI, cmpI, imp2, evSs, evS, evE, evEs, evB, evT, evTs, evHd, evTl, evE1, evLL, evI, evIf, evG, evTg, evH, callN, iterN, noStar, notSet, notComp, notSl, plainO, ownV, isaD, tyOf, knownT, isaT, boolD, intOf, strOf, seqOf, opB, opC, negD, scal, Sf.isNon, hndN, isExcK, isStrK, tgNs, tgOf, setTg, itemD, bltC, blt1, blt2, knB, imp2, listD, opN, cmpI, Lk.knows, isOw, lineOk, isTupE, isLT, look_cons, eqO_ii, eqO_bb, eqO_ss, eqO_in, eqO_ni, eqO_ins, eqO_tup, isRev, revD, h]
  rfl
theorem fdivz_ (f g : List α) (z : Exn) (h : (evD T (n + 9)).fn "_divided" [pol G f, pol G g] = .ex z) : (evD T (n + 10)).mt "Poly" "__floordiv__" [pol G f, pol G g] = .ex z := by
  unfold pol gnd at *
  rw [cf_Polyu_floordivu]; simp only [runB, runBN, runBI]; (conv in (FnI.body f_Polyu_floordivu) => whnf); simp (decide := true) [hot_glob, hotK, cls_int, cls_bool, cls_str, cls_list, cls_tuple, cls_own, sc_calm, sc_top, sc_lk, sc_N, lk_kind, lk_hasM, lk_hasO, lk_isC, lk_isF, lk_exm, lk_rm, lk_call, hot_slot, hot_tslot, hot_calm, hot_top, bind_ok, bind_ex, bind_no, so_ok, so_ex, so_no, dat_ok, dat_ex, dat_no, pu_ok, pu_ex, pu_no, of_some, of_none, sb_nx, sb_rt, sb_bk, sb_ct, sb_ex, sb_no, oc_ret, oc_ex, ocD_ret, ocD_ex, setSl_pu, setSl_fr, dat_pu, dat_fr, flatV, flatD, runB, runBN, runBI, FnI.start, modI, binI, cmpI, imp2, evSs, evS, evE, evEs, evB, evT, evTs, evHd, evTl, evE1, evLL, evI, evIf, evG, evTg, evH, callN, iterN, noStar, notSet, notComp, notSl, plainO, ownV, isaD, tyOf, knownT, isaT, boolD, intOf, strOf, seqOf, opB, opC, negD, scal, Sf.isNon, hndN, isExcK, isStrK, tgNs, tgOf, setTg, itemD, bltC, blt1, blt2, knB, imp2, listD, opN, cmpI, Lk.knows, isOw, lineOk, isTupE, isLT, look_cons, eqO_ii, eqO_bb, eqO_ss, eqO_in, eqO_ni, eqO_ins, eqO_tup, isRev, revD, h]
theorem modz_ (f g : List α) (z : Exn) (h : (evD T (n + 9)).fn "_divided" [pol G f, pol G g] = .ex z) : (evD T (n + 10)).mt "Poly" "__mod__" [pol G f, pol G g] = .ex z := by
  unfold pol gnd at *
  rw [cf_Polyu_modu]; simp only [runB, runBN, runBI]; (conv in (FnI.body f_Polyu_modu) => whnf); simp (decide := true) [hot_glob, hotK, cls_int, cls_bool, cls_str, cls_list, cls_tuple, cls_own, sc_calm, sc_top, sc_lk, sc_N, lk_kind, lk_hasM, lk_hasO, lk_isC, lk_isF, lk_exm, lk_rm, lk_call, hot_slot, hot_tslot, hot_calm, hot_top, bind_ok, bind_ex, bind_no, so_ok, so_ex, so_no, dat_ok, dat_ex, dat_no, pu_ok, pu_ex, pu_no, of_some, of_none, sb_nx, sb_rt, sb_bk, sb_ct, sb_ex, sb_no, oc_ret, oc_ex, ocD_ret, ocD_ex, setSl_pu, setSl_fr, dat_pu, dat_fr, flatV, flatD, runB, runBN, runBI, FnI.start, modI, binI, cmpI, imp2, evSs, evS, evE, evEs, evB, evT, evTs, evHd, evTl, evE1, evLL, evI, evIf, evG, evTg, evH, callN, iterN, noStar, notSet, notComp, notSl, plainO, ownV, isaD, tyOf, knownT, isaT, boolD, intOf, strOf, seqOf, opB, opC, negD, scal, Sf.isNon, hndN, isExcK, isStrK, tgNs, tgOf, setTg, itemD, bltC, blt1, blt2, knB, imp2, listD, opN, cmpI, Lk.knows, isOw, lineOk, isTupE, isLT, look_cons, eqO_ii, eqO_bb, eqO_ss, eqO_in, eqO_ni, eqO_ins, eqO_tup, isRev, revD, h]
end
end D08
namespace D08
open PySem L2 Sf Pm
section
variable {α : Type} [Lean.Grind.CommRing α] [DecidableEq α] (G : Gd α) (n : Nat)
/-! ### what division gives -/
theorem co_g (g : List α) (x : α) : co (g ++ [x]) g.length = x := by rw [co_append, if_pos rfl]
theorem dvR_inv (f g : List α) (x : α) (h0 : x ≠ 0) : DInv f (g ++ [x]) g.length (dvR G f g x).1 (dvR G f g x).2 ∧ (dvR G f g x).1.length ≤ g.length := by
  refine divGo_inv (by simp) (by rw [co_g]; exact G.mi x h0) f.length f [] (Nat.le_refl _) ⟨by simp, fun j => ?_⟩
  show co f j = co f j + (0 : α)
  grind
theorem dvR_full (f g : List α) (x : α) (h : (dvR G f g x).2 ≠ []) : g.length ≤ (dvR G f g x).1.length := divGo_len f.length f [] (fun z => absurd rfl z) h
theorem dvR_eq (f g : List α) (x : α) (h0 : x ≠ 0) (j : Nat) : co f j = conv (dvR G f g x).2.reverse (g ++ [x]) j + co (dvR G f g x).1 j := by
  obtain ⟨I, hl⟩ := dvR_inv G f g x h0
  exact div_eq I hl (fun h => Nat.le_antisymm hl (dvR_full G f g x h)) j
/-- quotient times divisor and the remainder -/
theorem dvR_back (f g : List α) (x : α) (h0 : x ≠ 0) (hf : Tr f) :
    trim ((List.range (max (trim (prodL (trim (dvR G f g x).2.reverse) (g ++ [x]))).length (trim (dvR G f g x).1).length)).map fun k => co (trim (prodL (trim (dvR G f g x).2.reverse) (g ++ [x]))) k + co (trim (dvR G f g x).1) k) = f := by
  refine tr_ext (tr_trim _) hf fun j => ?_
  have e : co (trim (prodL (trim (dvR G f g x).2.reverse) (g ++ [x]))) j = conv (dvR G f g x).2.reverse (g ++ [x]) j := by
    rw [co_trim]
    unfold prodL
    rw [prod_co]
    exact conv_congr (fun i => co_trim _ i) (fun _ => rfl) j
  rw [co_trim, co_range, dvR_eq G f g x h0 j]
  split
  · rw [e, co_trim]
  · rename_i h
    rw [← e, ← co_trim (dvR G f g x).1 j, co_ge (l := trim (prodL _ _)) (by omega), co_ge (by omega)]
    grind
theorem own_eq (g : List α) (x : α) (h0 : x ≠ 0) : trim ((g ++ [x]).map fun y => y * G.inv x) = (g.map fun y => y * G.inv x) ++ [1] := by
  rw [List.map_append, List.map_cons, List.map_nil, trim_last, G.mi x h0, if_neg G.ne]
theorem own_back (g : List α) (x : α) (h0 : x ≠ 0) (hg : Tr (g ++ [x])) : trim (((g.map fun y => y * G.inv x) ++ [1]).map fun y => y * x) = g ++ [x] := by
  have e : ((g.map fun y => y * G.inv x) ++ [1]).map (fun y => y * x) = g ++ [x] := by
    rw [List.map_append, List.map_map, List.map_cons, List.map_nil]
    congr 1
    · conv => rhs; rw [← List.map_id g]
      refine List.map_congr_left fun y _ => ?_
      show y * G.inv x * x = y
      have := G.mi x h0
      grind
    · congr 1; grind
  rw [e]
  exact trim_tr hg
theorem inv_one : G.inv 1 = 1 := by
  have := G.mi 1 G.ne
  grind
theorem own_rest (g : List α) (x : α) (h0 : x ≠ 0) : trim (dvR G (g ++ [x]) (g.map fun y => y * G.inv x) 1).1 = [] := by
  refine tr_ext (tr_trim _) (fun m y h => by simp at h) fun j => ?_
  rw [co_trim]
  unfold dvR
  rw [List.length_map, inv_one, List.length_append, List.length_singleton, divGo, if_pos (by simp)]
  have h1 : (g ++ [x]).dropLast = g := by simp
  have h2 : co (g ++ [x]) ((g ++ [x]).length - 1) = x := by rw [List.length_append, List.length_singleton, Nat.add_sub_cancel, co_g]
  simp only [h1, h2]
  have hz : ∀ (m : Nat) (N Q : List α), N.length ≤ g.length → divGo ((g.map fun y => y * G.inv x) ++ [1]) 1 g.length m (N, Q) = (N, Q) := by
    intro m N Q hN
    cases m with
    | zero => rfl
    | succ m => rw [divGo, if_neg (by omega)]
  rw [hz _ _ _ (by rw [sub1_len]; exact Nat.le_refl _)]
  show co (sub1 _ _ _ _ _) j = _
  rw [sub1_co _ _ _ _ _ _ (by omega), show co ([] : List α) j = 0 from co_ge (Nat.zero_le _)]
  have hi := G.mi x h0
  by_cases hj : j < g.length
  · rw [if_pos (by omega), co_append, if_neg (by rw [List.length_map]; omega), show j - (g.length - g.length) = j by omega, co_map (f := fun y => y * G.inv x) (by grind)]
    grind
  · rw [if_neg (by omega), co_ge (l := g) (by omega)]
    grind
end
end D08
namespace D08
open PySem L2 Sf Pm
section
variable {α : Type} [Lean.Grind.CommRing α] [DecidableEq α] (G : Gd α) (n : Nat)
/-! ### the law, from the polynomials on -/
abbrev cL : SC := T.sc f_law (evD T 14)
def at6 (sc : Dat) (us : List Dat) (p : Dat) (f g : List α) : List Sl := [.pu sc, .ow false us, .pu p, .pu (gnd G.p), .pu (pol G f), .pu (pol G g), .pu (pol G []), .no]
theorem refz (f : List α) : (evD T (n + 11)).fn "_law_refuses" [pol G f, pol G []] = .ret (.pu (dB true)) := by
  have h1 := fdivz_ G n f [] _ (dvz_ G n f)
  have h2 := modz_ G n f [] _ (dvz_ G n f)
  unfold pol gnd zdv at *
  rw [List.map_nil] at *
  rw [cf__law_refuses]; simp only [runB, runBN, runBI]; (conv in (FnI.body f__law_refuses) => whnf); simp (decide := true) [hot_glob, hotK, cls_int, cls_bool, cls_str, cls_list, cls_tuple, cls_own, sc_calm, sc_top, sc_lk, sc_N, lk_kind, lk_hasM, lk_hasO, lk_isC, lk_isF, lk_exm, lk_rm, lk_call, hot_slot, hot_tslot, hot_calm, hot_top, bind_ok, bind_ex, bind_no, so_ok, so_ex, so_no, dat_ok, dat_ex, dat_no, pu_ok, pu_ex, pu_no, of_some, of_none, sb_nx, sb_rt, sb_bk, sb_ct, sb_ex, sb_no, oc_ret, oc_ex, ocD_ret, ocD_ex, setSl_pu, setSl_fr, dat_pu, dat_fr, flatV, flatD, runB, runBN, runBI, FnI.start, modI, binI, cmpI, imp2, evSs, evS, evE, evEs, evB, evT, evTs, evHd, evTl, evE1, evLL, evI, evIf, evG, evTg, evH, callN, iterN, noStar, notSet, notComp, notSl, plainO, ownV, isaD, tyOf, knownT, isaT, boolD, intOf, strOf, seqOf, opB, opC, negD, scal, Sf.isNon, hndN, isExcK, isStrK, tgNs, tgOf, setTg, itemD, bltC, blt1, blt2, knB, imp2, listD, opN, cmpI, Lk.knows, isOw, lineOk, isTupE, isLT, look_cons, eqO_ii, eqO_bb, eqO_ss, eqO_in, eqO_ni, eqO_ins, eqO_tup, isRev, revD, h1, h2]
theorem law6 (sc : Dat) (us : List Dat) (p : Dat) (f g : List α) : evS (stAt f_law.body 6) cL (at6 G sc us p f g) = .nx (at6 G sc us p f g) := by
  have h1 := refz G 3 f
  have h2 := monic0_ G 11
  have h3 := eq_ G 7 ([] : List α)
  unfold cL at6 pol gnd at *
  rw [List.map_nil] at *
  (conv in (stAt f_law.body 6) => whnf)
  simp (decide := true) [hot_glob, hotK, cls_int, cls_bool, cls_str, cls_list, cls_tuple, cls_own, sc_calm, sc_top, sc_lk, sc_N, lk_kind, lk_hasM, lk_hasO, lk_isC, lk_isF, lk_exm, lk_rm, lk_call, hot_slot, hot_tslot, hot_calm, hot_top, bind_ok, bind_ex, bind_no, so_ok, so_ex, so_no, dat_ok, dat_ex, dat_no, pu_ok, pu_ex, pu_no, of_some, of_none, sb_nx, sb_rt, sb_bk, sb_ct, sb_ex, sb_no, oc_ret, oc_ex, ocD_ret, ocD_ex, setSl_pu, setSl_fr, dat_pu, dat_fr, flatV, flatD, runB, runBN, runBI, FnI.start, modI, binI, cmpI, imp2, evSs, evS, evE, evEs, evB, evT, evTs, evHd, evTl, evE1, evLL, evI, evIf, evG, evTg, evH, callN, iterN, noStar, notSet, notComp, notSl, plainO, ownV, isaD, tyOf, knownT, isaT, boolD, intOf, strOf, seqOf, opB, opC, negD, scal, Sf.isNon, hndN, isExcK, isStrK, tgNs, tgOf, setTg, itemD, bltC, blt1, blt2, knB, imp2, listD, opN, cmpI, Lk.knows, isOw, lineOk, isTupE, isLT, look_cons, eqO_ii, eqO_bb, eqO_ss, eqO_in, eqO_ni, eqO_ins, eqO_tup, isRev, revD, h1, h2, h3]
theorem law7z (sc : Dat) (us : List Dat) (p : Dat) (f : List α) : evS (stAt f_law.body 7) cL (at6 G sc us p f []) = .rt (.pu (dB true)) (at6 G sc us p f []) := by
  have h1 := refz G 3 f
  have h2 := isz_ G 13 ([] : List α)
  rw [decide_eq_true rfl] at h2
  unfold cL at6 pol gnd at *
  rw [List.map_nil] at *
  (conv in (stAt f_law.body 7) => whnf)
  simp (decide := true) [hot_glob, hotK, cls_int, cls_bool, cls_str, cls_list, cls_tuple, cls_own, sc_calm, sc_top, sc_lk, sc_N, lk_kind, lk_hasM, lk_hasO, lk_isC, lk_isF, lk_exm, lk_rm, lk_call, hot_slot, hot_tslot, hot_calm, hot_top, bind_ok, bind_ex, bind_no, so_ok, so_ex, so_no, dat_ok, dat_ex, dat_no, pu_ok, pu_ex, pu_no, of_some, of_none, sb_nx, sb_rt, sb_bk, sb_ct, sb_ex, sb_no, oc_ret, oc_ex, ocD_ret, ocD_ex, setSl_pu, setSl_fr, dat_pu, dat_fr, flatV, flatD, runB, runBN, runBI, FnI.start, modI, binI, cmpI, imp2, evSs, evS, evE, evEs, evB, evT, evTs, evHd, evTl, evE1, evLL, evI, evIf, evG, evTg, evH, callN, iterN, noStar, notSet, notComp, notSl, plainO, ownV, isaD, tyOf, knownT, isaT, boolD, intOf, strOf, seqOf, opB, opC, negD, scal, Sf.isNon, hndN, isExcK, isStrK, tgNs, tgOf, setTg, itemD, bltC, blt1, blt2, knB, imp2, listD, opN, cmpI, Lk.knows, isOw, lineOk, isTupE, isLT, look_cons, eqO_ii, eqO_bb, eqO_ss, eqO_in, eqO_ni, eqO_ins, eqO_tup, isRev, revD, h1, h2]
theorem law7 (sc : Dat) (us : List Dat) (p : Dat) (f g : List α) (hg : g ≠ []) : evS (stAt f_law.body 7) cL (at6 G sc us p f g) = .nx (at6 G sc us p f g) := by
  have h2 := isz_ G 13 g
  rw [decide_eq_false hg] at h2
  unfold cL at6 pol gnd at *
  (conv in (stAt f_law.body 7) => whnf)
  simp (decide := true) [hot_glob, hotK, cls_int, cls_bool, cls_str, cls_list, cls_tuple, cls_own, sc_calm, sc_top, sc_lk, sc_N, lk_kind, lk_hasM, lk_hasO, lk_isC, lk_isF, lk_exm, lk_rm, lk_call, hot_slot, hot_tslot, hot_calm, hot_top, bind_ok, bind_ex, bind_no, so_ok, so_ex, so_no, dat_ok, dat_ex, dat_no, pu_ok, pu_ex, pu_no, of_some, of_none, sb_nx, sb_rt, sb_bk, sb_ct, sb_ex, sb_no, oc_ret, oc_ex, ocD_ret, ocD_ex, setSl_pu, setSl_fr, dat_pu, dat_fr, flatV, flatD, runB, runBN, runBI, FnI.start, modI, binI, cmpI, imp2, evSs, evS, evE, evEs, evB, evT, evTs, evHd, evTl, evE1, evLL, evI, evIf, evG, evTg, evH, callN, iterN, noStar, notSet, notComp, notSl, plainO, ownV, isaD, tyOf, knownT, isaT, boolD, intOf, strOf, seqOf, opB, opC, negD, scal, Sf.isNon, hndN, isExcK, isStrK, tgNs, tgOf, setTg, itemD, bltC, blt1, blt2, knB, imp2, listD, opN, cmpI, Lk.knows, isOw, lineOk, isTupE, isLT, look_cons, eqO_ii, eqO_bb, eqO_ss, eqO_in, eqO_ni, eqO_ins, eqO_tup, isRev, revD, h2]
/-- the lists' ends -/
theorem lenQ (f g : List α) (x : α) : (dvR G f g x).1.length + (dvR G f g x).2.length = f.length := by
  have := divGo_total (g ++ [x]) (G.inv x) g.length f.length f []
  exact this
theorem szL_trim {s : Nat} {l : List α} (h : SzL G s l) : SzL G s (trim l) := fun j => by rw [co_trim]; exact h j
theorem szL_rev {s : Nat} {l : List α} (h : SzL G s l) (h1 : 1 ≤ s) : SzL G s l.reverse := fun j => by
  by_cases hj : j < l.reverse.length
  · rw [co_lt hj, List.getElem_reverse]
    exact szL_mem G h (List.getElem_mem _)
  · rw [co_ge (by omega)]; exact G.mono G.sz0 h1
theorem szL_prod {s t : Nat} {f g : List α} (hf : SzL G s f) (hg : SzL G t g) : SzL G (1 + f.length * (s + t + 1)) (prodL f g) := by
  have go : ∀ (xs : List α) (i B : Nat) (L : List α), (∀ x ∈ xs, G.Sz s x) → SzL G B L → i + xs.length + g.length ≤ L.length → SzL G (B + xs.length * (s + t + 1)) (outr g i xs L) := by
    intro xs
    induction xs with
    | nil => intro i B L _ hL _; simpa [outr] using hL
    | cons x xs ih =>
      intro i B L hx hL hl
      rw [List.length_cons] at hl ⊢
      have := ih (i + 1) (B + (s + t) + 1) (inr x i 0 g L) (fun w hw => hx w (List.mem_cons_of_mem _ hw)) (inr_sz G x i (hx x List.mem_cons_self) g hg L hL (by omega)) (by rw [inr_len]; omega)
      unfold outr
      rw [Nat.succ_mul]
      rw [show B + (xs.length * (s + t + 1) + (s + t + 1)) = B + (s + t) + 1 + xs.length * (s + t + 1) by omega]
      exact this
  exact go f 0 1 _ (fun x hx => szL_mem G hf hx) (fun j => by rw [co_rep]; exact G.sz0) (by rw [List.length_replicate]; omega)
theorem law8 (sc : Dat) (us : List Dat) (p : Dat) (f g : List α) (x : α) (h0 : x ≠ 0) (hf : SzL G 3 f) (hg : SzL G 3 (g ++ [x])) (lf : f.length ≤ 6) (lg : g.length ≤ 3) (tf : Tr f) :
    evS (stAt f_law.body 8) cL (at6 G sc us p f (g ++ [x])) = .nx (at6 G sc us p f (g ++ [x])) := by
  have hp : 2 ^ f.length ≤ 2 ^ 6 := Nat.pow_le_pow_right (by decide) lf
  obtain ⟨hd, z1, z2⟩ := dv_ G 4 f g x h0 hf hg (S := 640) (by
    have : 2 ^ f.length * (3 + 3 + 3 + 1) ≤ 2 ^ 6 * (3 + 3 + 3 + 1) := Nat.mul_le_mul_right _ hp
    omega) (by decide) (by decide) (by omega) (by omega) (by decide)
  have hlq := lenQ G f g x
  have h1 := fdiv_ G 4 f (g ++ [x]) _ _ hd
  have h2 := mod_ G 4 f (g ++ [x]) _ _ hd
  have zq : SzL G 640 (trim (dvR G f g x).2.reverse) := szL_trim G (szL_rev G z2 (by decide))
  have lq : (trim (dvR G f g x).2.reverse).length ≤ 6 := Nat.le_trans (trim_len _) (by rw [List.length_reverse]; omega)
  have lr : (trim (dvR G f g x).1).length ≤ g.length := Nat.le_trans (trim_len _) (dvR_inv G f g x h0).2
  have hm : (trim (dvR G f g x).2.reverse).length * (640 + 3 + 1) ≤ 6 * (640 + 3 + 1) := Nat.mul_le_mul_right _ lq
  have h3 := mul_ G 5 (trim (dvR G f g x).2.reverse) (g ++ [x]) zq hg (by omega) (by omega) (by simp; omega)
  have zp := szL_prod G zq hg
  have lp : (trim (prodL (trim (dvR G f g x).2.reverse) (g ++ [x]))).length ≤ 100 := Nat.le_trans (trim_len _) (by unfold prodL; rw [outr_len, List.length_replicate]; simp; omega)
  have h4 := add_ G 5 (trim (prodL (trim (dvR G f g x).2.reverse) (g ++ [x]))) (trim (dvR G f g x).1) (szL_trim G zp) (szL_trim G z1) (by omega) (by omega) (by omega)
  rw [dvR_back G f g x h0 tf] at h4
  have h5 := eq_ G 7 f
  have h6 := deg_ G 13 (trim (dvR G f g x).1)
  have h7 := deg_ G 13 (g ++ [x])
  have h8 : ¬ (((g ++ [x]).length : Int) - 1 ≤ ((trim (dvR G f g x).1).length : Int) - 1) := by simp; omega
  generalize (trim (dvR G f g x).1) = r at *
  generalize trim (prodL (trim (dvR G f g x).2.reverse) (g ++ [x])) = qg at *
  generalize trim (dvR G f g x).2.reverse = q at *
  clear zq lq lr hm zp lp z1 z2 hd hlq hp hg
  generalize g ++ [x] = g at *
  unfold cL at6 pol gnd at *
  (conv in (stAt f_law.body 8) => whnf)
  simp (decide := true) [hot_glob, hotK, cls_int, cls_bool, cls_str, cls_list, cls_tuple, cls_own, sc_calm, sc_top, sc_lk, sc_N, lk_kind, lk_hasM, lk_hasO, lk_isC, lk_isF, lk_exm, lk_rm, lk_call, hot_slot, hot_tslot, hot_calm, hot_top, bind_ok, bind_ex, bind_no, so_ok, so_ex, so_no, dat_ok, dat_ex, dat_no, pu_ok, pu_ex, pu_no, of_some, of_none, sb_nx, sb_rt, sb_bk, sb_ct, sb_ex, sb_no, oc_ret, oc_ex, ocD_ret, ocD_ex, setSl_pu, setSl_fr, dat_pu, dat_fr, flatV, flatD, runB, runBN, runBI, FnI.start, modI, binI, cmpI, imp2, evSs, evS, evE, evEs, evB, evT, evTs, evHd, evTl, evE1, evLL, evI, evIf, evG, evTg, evH, callN, iterN, noStar, notSet, notComp, notSl, plainO, ownV, isaD, tyOf, knownT, isaT, boolD, intOf, strOf, seqOf, opB, opC, negD, scal, Sf.isNon, hndN, isExcK, isStrK, tgNs, tgOf, setTg, itemD, bltC, blt1, blt2, knB, imp2, listD, opN, cmpI, Lk.knows, isOw, lineOk, isTupE, isLT, look_cons, eqO_ii, eqO_bb, eqO_ss, eqO_in, eqO_ni, eqO_ins, eqO_tup, isRev, revD, h1, h2, h3, h4, h5, h6, h7, h8]
end
end D08
namespace D08
open PySem L2 Sf Pm
section
variable (n : Nat) (call : Calls)
theorem log_small {k : Nat} (h : k < 2 ^ 64) : k.log2 < 64 := by
  by_cases h0 : k = 0
  · subst h0; decide
  · exact (Nat.log2_lt h0).mpr h
theorem mulG_small {i j : Int} (hi : i.natAbs < 2 ^ 64) (hj : j.natAbs < 2 ^ 64) : mulG i j = true := by
  have a := log_small hi
  have b := log_small hj
  unfold mulG
  exact decide_eq_true (by omega)
def b__law_numbers_L0 : List Stmt := lpB (stAt f__law_numbers.body 1)
def lp1 : Stmt := stAt (ifA (stAt b__law_numbers_L0 1)) 0
def lp2 : Stmt := stAt (ifB (stAt b__law_numbers_L0 1)) 0
def b__law_numbers_L1 : List Stmt := lpB lp1
def b__law_numbers_L2 : List Stmt := lpB lp2
theorem bL : f__law_numbers.body = [stAt f__law_numbers.body 0, .For (lpT (stAt f__law_numbers.body 1)) (lpI (stAt f__law_numbers.body 1)) b__law_numbers_L0 [] (lpP (stAt f__law_numbers.body 1)), stAt f__law_numbers.body 2] := by kernel_rfl
theorem bL0 : b__law_numbers_L0 = [stAt b__law_numbers_L0 0, .If (ifT (stAt b__law_numbers_L0 1)) [.For (lpT lp1) (lpI lp1) b__law_numbers_L1 [] (lpP lp1)] [.For (lpT lp2) (lpI lp2) b__law_numbers_L2 [] (lpP lp2)] (lpP (stAt b__law_numbers_L0 1))] := by kernel_rfl
abbrev cN (call : Calls) : SC := T.sc f__law_numbers call
def Inv1 (ns : List Int) (k : Int) (B : Int → Prop) (m : Nat) (ρ : List Sl) : Prop := ∃ (xs : List Int) (c : Int) (s4 s5 s6 : Sl), ρ = [.pu (.rol (ns.map dI)), .ow false (xs.map dI), .pu (dI k), .pu (dI c), s4, s5, s6] ∧ xs.length ≤ m ∧ 0 ≤ c ∧ B c
theorem app_map (xs : List Int) (y : Int) : xs.map dI ++ [dI y] = (xs ++ [y]).map dI := by rw [List.map_append]; rfl
theorem turn2 (ns : List Int) (k : Int) (hk : 0 ≤ k ∧ k < 63) (i : Int) (hi : 0 ≤ i ∧ i < 5) (m : Nat) (hm : m < 5000) (ρ : List Sl) (h : Inv1 ns k (fun c => c < 10 ^ 18) m ρ) :
    ∃ ρ', evSs b__law_numbers_L2 (cN call) (ρ.set 5 (.pu (dI i))) = .nx ρ' ∧ Inv1 ns k (fun c => c < 10 ^ 18) (m + 1) ρ' := by
  obtain ⟨xs, c, s4, s5, s6, rfl, hx, c0, c1⟩ := h
  have hl : xs.length < 100000 := by omega
  have m1 : mulG c 48271 = true := mulG_small (by omega) (by decide)
  have m2 : mulG 69621 (i + k) = true := mulG_small (by decide) (by omega)
  have q0 : 0 ≤ (c * 48271 + 69621 * (i + k) + 11) % 2147483647 ∧ (c * 48271 + 69621 * (i + k) + 11) % 2147483647 < 2147483647 := ⟨Int.emod_nonneg _ (by decide), Int.emod_lt_of_pos _ (by decide)⟩
  have m3 : mulG ((c * 48271 + 69621 * (i + k) + 11) % 2147483647) 16807 = true := mulG_small (by omega) (by decide)
  have d1 : ∀ x : Int, divI x 65536 = some (x / 65536) := fun x => by unfold divI; rw [if_pos (by decide)]
  unfold cN
  (conv in (b__law_numbers_L2) => whnf)
  simp (decide := true) [hot_glob, hotK, cls_int, cls_bool, cls_str, cls_list, cls_tuple, cls_own, sc_calm, sc_top, sc_lk, sc_N, lk_kind, lk_hasM, lk_hasO, lk_isC, lk_isF, lk_exm, lk_rm, lk_call, hot_slot, hot_tslot, hot_calm, hot_top, bind_ok, bind_ex, bind_no, so_ok, so_ex, so_no, dat_ok, dat_ex, dat_no, pu_ok, pu_ex, pu_no, of_some, of_none, sb_nx, sb_rt, sb_bk, sb_ct, sb_ex, sb_no, oc_ret, oc_ex, ocD_ret, ocD_ex, setSl_pu, setSl_fr, dat_pu, dat_fr, flatV, flatD, runB, runBN, runBI, FnI.start, modI, binI, cmpI, imp2, evSs, evS, evE, evEs, evB, evT, evTs, evHd, evTl, evE1, evLL, evI, evIf, evG, evTg, evH, callN, iterN, noStar, notSet, notComp, notSl, plainO, ownV, isaD, tyOf, knownT, isaT, boolD, intOf, strOf, seqOf, opB, opC, negD, scal, Sf.isNon, hndN, isExcK, isStrK, tgNs, tgOf, setTg, itemD, bltC, blt1, blt2, knB, imp2, listD, opN, cmpI, Lk.knows, isOw, lineOk, isTupE, isLT, look_cons, eqO_ii, eqO_bb, eqO_ss, eqO_in, eqO_ni, eqO_ins, eqO_tup, isRev, revD, hl, m1, m2, m3, d1]
  refine ⟨xs ++ [_], _, s4, _, _, by rw [← app_map], by rw [List.length_append, List.length_singleton]; omega, q0.1, by omega⟩
theorem turn1 (ns : List Int) (k i : Int) (m : Nat) (hm : m < 5000) (ρ : List Sl) (h : Inv1 ns k (fun _ => True) m ρ) :
    ∃ ρ', evSs b__law_numbers_L1 (cN call) (ρ.set 4 (.pu (dI i))) = .nx ρ' ∧ Inv1 ns k (fun _ => True) (m + 1) ρ' := by
  obtain ⟨xs, c, s4, s5, s6, rfl, hx, c0, c1⟩ := h
  have hl : xs.length < 100000 := by omega
  have d1 : ∀ x : Int, divI x 1009 = some (x / 1009) := fun x => by unfold divI; rw [if_pos (by decide)]
  unfold cN
  (conv in (b__law_numbers_L1) => whnf)
  by_cases hc : 0 < c
  · simp (decide := true) [hot_glob, hotK, cls_int, cls_bool, cls_str, cls_list, cls_tuple, cls_own, sc_calm, sc_top, sc_lk, sc_N, lk_kind, lk_hasM, lk_hasO, lk_isC, lk_isF, lk_exm, lk_rm, lk_call, hot_slot, hot_tslot, hot_calm, hot_top, bind_ok, bind_ex, bind_no, so_ok, so_ex, so_no, dat_ok, dat_ex, dat_no, pu_ok, pu_ex, pu_no, of_some, of_none, sb_nx, sb_rt, sb_bk, sb_ct, sb_ex, sb_no, oc_ret, oc_ex, ocD_ret, ocD_ex, setSl_pu, setSl_fr, dat_pu, dat_fr, flatV, flatD, runB, runBN, runBI, FnI.start, modI, binI, cmpI, imp2, evSs, evS, evE, evEs, evB, evT, evTs, evHd, evTl, evE1, evLL, evI, evIf, evG, evTg, evH, callN, iterN, noStar, notSet, notComp, notSl, plainO, ownV, isaD, tyOf, knownT, isaT, boolD, intOf, strOf, seqOf, opB, opC, negD, scal, Sf.isNon, hndN, isExcK, isStrK, tgNs, tgOf, setTg, itemD, bltC, blt1, blt2, knB, imp2, listD, opN, cmpI, Lk.knows, isOw, lineOk, isTupE, isLT, look_cons, eqO_ii, eqO_bb, eqO_ss, eqO_in, eqO_ni, eqO_ins, eqO_tup, isRev, revD, hl, hc, d1]
    refine ⟨xs ++ [_], _, _, s5, s6, by rw [← app_map], by rw [List.length_append, List.length_singleton]; omega, Int.ediv_nonneg c0 (by decide), trivial⟩
  · simp (decide := true) [hot_glob, hotK, cls_int, cls_bool, cls_str, cls_list, cls_tuple, cls_own, sc_calm, sc_top, sc_lk, sc_N, lk_kind, lk_hasM, lk_hasO, lk_isC, lk_isF, lk_exm, lk_rm, lk_call, hot_slot, hot_tslot, hot_calm, hot_top, bind_ok, bind_ex, bind_no, so_ok, so_ex, so_no, dat_ok, dat_ex, dat_no, pu_ok, pu_ex, pu_no, of_some, of_none, sb_nx, sb_rt, sb_bk, sb_ct, sb_ex, sb_no, oc_ret, oc_ex, ocD_ret, ocD_ex, setSl_pu, setSl_fr, dat_pu, dat_fr, flatV, flatD, runB, runBN, runBI, FnI.start, modI, binI, cmpI, imp2, evSs, evS, evE, evEs, evB, evT, evTs, evHd, evTl, evE1, evLL, evI, evIf, evG, evTg, evH, callN, iterN, noStar, notSet, notComp, notSl, plainO, ownV, isaD, tyOf, knownT, isaT, boolD, intOf, strOf, seqOf, opB, opC, negD, scal, Sf.isNon, hndN, isExcK, isStrK, tgNs, tgOf, setTg, itemD, bltC, blt1, blt2, knB, imp2, listD, opN, cmpI, Lk.knows, isOw, lineOk, isTupE, isLT, look_cons, eqO_ii, eqO_bb, eqO_ss, eqO_in, eqO_ni, eqO_ins, eqO_tup, isRev, revD, hl, hc, d1]
    exact ⟨xs, c, _, s5, s6, rfl, by omega, c0, trivial⟩
def Inv0 (ns : List Int) (m : Nat) (ρ : List Sl) : Prop := ∃ (xs : List Int) (s2 s3 s4 s5 s6 : Sl), ρ = [.pu (.rol (ns.map dI)), .ow false (xs.map dI), s2, s3, s4, s5, s6] ∧ xs.length ≤ m
theorem loop1 (ns : List Int) (k : Int) (m : Nat) (hm : m + 60 < 5000) (ρ : List Sl) (h : Inv1 ns k (fun _ => True) m ρ) : ∃ ρ', forGo (.one 4) (fun ρ => evSs b__law_numbers_L1 (cN call) ρ) (rgD 0 1 60) ρ = .nx ρ' ∧ Inv1 ns k (fun _ => True) (m + 60) ρ' := by
  obtain ⟨ρ', e, h'⟩ := forGo_inv (tg := .one 4) (body := fun ρ => evSs b__law_numbers_L1 (cN call) ρ) (fun t ρ => t ≤ 60 ∧ Inv1 ns k (fun _ => True) (m + t) ρ) (rgD 0 1 60) 0 ρ ⟨by omega, h⟩ fun j d ρ hd hi => by
    obtain ⟨rfl, hj⟩ := rgD_at hd
    obtain ⟨ρ3, e3, i3⟩ := turn1 call ns k j (m + (0 + j)) (by omega) ρ hi.2
    exact ⟨_, ρ3, rfl, .inl e3, by omega, by rw [show m + (0 + j + 1) = m + (0 + j) + 1 by omega]; exact i3⟩
  refine ⟨ρ', e, ?_⟩
  rw [rgD_length, Nat.zero_add] at h'
  exact h'.2
theorem loop2 (ns : List Int) (k : Int) (hk : 0 ≤ k ∧ k < 63) (m : Nat) (hm : m + 60 < 5000) (ρ : List Sl) (h : Inv1 ns k (fun c => c < 10 ^ 18) m ρ) : ∃ ρ', forGo (.one 5) (fun ρ => evSs b__law_numbers_L2 (cN call) ρ) (rgD 0 1 5) ρ = .nx ρ' ∧ Inv1 ns k (fun c => c < 10 ^ 18) (m + 5) ρ' := by
  obtain ⟨ρ', e, h'⟩ := forGo_inv (tg := .one 5) (body := fun ρ => evSs b__law_numbers_L2 (cN call) ρ) (fun t ρ => t ≤ 5 ∧ Inv1 ns k (fun c => c < 10 ^ 18) (m + t) ρ) (rgD 0 1 5) 0 ρ ⟨by omega, h⟩ fun j d ρ hd hi => by
    obtain ⟨rfl, hj⟩ := rgD_at hd
    obtain ⟨ρ3, e3, i3⟩ := turn2 call ns k hk j (by omega) (m + (0 + j)) (by omega) ρ hi.2
    exact ⟨_, ρ3, rfl, .inl e3, by omega, by rw [show m + (0 + j + 1) = m + (0 + j) + 1 by omega]; exact i3⟩
  refine ⟨ρ', e, ?_⟩
  rw [rgD_length, Nat.zero_add] at h'
  exact h'.2
theorem turn0 (ns : List Int) (k m : Nat) (hk : k < ns.length) (hl : ns.length ≤ 63) (hm : m + 60 < 5000) (ρ : List Sl) (h : Inv0 ns m ρ) : ∃ ρ', evSs b__law_numbers_L0 (cN call) (ρ.set 2 (.pu (dI (k : Int)))) = .nx ρ' ∧ Inv0 ns (m + 60) ρ' := by
  obtain ⟨xs, s2, s3, s4, s5, s6, rfl, hx⟩ := h
  have hd : (ns.map dI)[k]? = some (dI ns[k]) := by rw [List.getElem?_map, List.getElem?_eq_getElem hk]; rfl
  have ab : ∀ x : Int, 0 ≤ (if x < 0 then -x else x) := fun x => by split <;> omega
  have r60 : rngI [dI 60] = some (rgD 0 1 60) := rngI0 60 (by decide) (by decide)
  have r5 : rngI [dI 5] = some (rgD 0 1 5) := rngI0 5 (by decide) (by decide)
  generalize hy : (if ns[k] < 0 then -ns[k] else ns[k]) = y
  have y0 : 0 ≤ y := by rw [← hy]; exact ab _
  by_cases hc : (1000000000000000000 : Int) ≤ y
  · obtain ⟨ρ', e, xs', c', t4, t5, t6, rfl, hx', _⟩ := loop1 call ns k m hm [.pu (.rol (ns.map dI)), .ow false (xs.map dI), .pu (dI k), .pu (dI y), s4, s5, s6] ⟨xs, y, s4, s5, s6, rfl, hx, y0, trivial⟩
    unfold cN at e ⊢
    rw [bL0]; (conv in (stAt b__law_numbers_L0 0) => whnf); (conv in (ifT _) => whnf); (conv in (lpT lp1) => whnf); (conv in (lpI lp1) => whnf); (conv in (lpT lp2) => whnf); (conv in (lpI lp2) => whnf)
    simp (decide := true) [hot_glob, hotK, cls_int, cls_bool, cls_str, cls_list, cls_tuple, cls_own, sc_calm, sc_top, sc_lk, sc_N, lk_kind, lk_hasM, lk_hasO, lk_isC, lk_isF, lk_exm, lk_rm, lk_call, hot_slot, hot_tslot, hot_calm, hot_top, bind_ok, bind_ex, bind_no, so_ok, so_ex, so_no, dat_ok, dat_ex, dat_no, pu_ok, pu_ex, pu_no, of_some, of_none, sb_nx, sb_rt, sb_bk, sb_ct, sb_ex, sb_no, oc_ret, oc_ex, ocD_ret, ocD_ex, setSl_pu, setSl_fr, dat_pu, dat_fr, flatV, flatD, runB, runBN, runBI, FnI.start, modI, binI, cmpI, imp2, evSs, evS, evE, evEs, evB, evT, evTs, evHd, evTl, evE1, evLL, evI, evIf, evG, evTg, evH, callN, iterN, noStar, notSet, notComp, notSl, plainO, ownV, isaD, tyOf, knownT, isaT, boolD, intOf, strOf, seqOf, opB, opC, negD, scal, Sf.isNon, hndN, isExcK, isStrK, tgNs, tgOf, setTg, itemD, bltC, blt1, blt2, knB, imp2, listD, opN, cmpI, Lk.knows, isOw, lineOk, isTupE, isLT, look_cons, eqO_ii, eqO_bb, eqO_ss, eqO_in, eqO_ni, eqO_ins, eqO_tup, isRev, revD, ixN_nat hk, hd, hy, hc, r60, r5, e]
    exact ⟨xs', _, _, _, _, _, rfl, hx'⟩
  · obtain ⟨ρ', e, xs', c', t4, t5, t6, rfl, hx', _⟩ := loop2 call ns k ⟨by omega, by omega⟩ m hm [.pu (.rol (ns.map dI)), .ow false (xs.map dI), .pu (dI k), .pu (dI y), s4, s5, s6] ⟨xs, y, s4, s5, s6, rfl, hx, y0, by omega⟩
    unfold cN at e ⊢
    rw [bL0]; (conv in (stAt b__law_numbers_L0 0) => whnf); (conv in (ifT _) => whnf); (conv in (lpT lp1) => whnf); (conv in (lpI lp1) => whnf); (conv in (lpT lp2) => whnf); (conv in (lpI lp2) => whnf)
    simp (decide := true) [hot_glob, hotK, cls_int, cls_bool, cls_str, cls_list, cls_tuple, cls_own, sc_calm, sc_top, sc_lk, sc_N, lk_kind, lk_hasM, lk_hasO, lk_isC, lk_isF, lk_exm, lk_rm, lk_call, hot_slot, hot_tslot, hot_calm, hot_top, bind_ok, bind_ex, bind_no, so_ok, so_ex, so_no, dat_ok, dat_ex, dat_no, pu_ok, pu_ex, pu_no, of_some, of_none, sb_nx, sb_rt, sb_bk, sb_ct, sb_ex, sb_no, oc_ret, oc_ex, ocD_ret, ocD_ex, setSl_pu, setSl_fr, dat_pu, dat_fr, flatV, flatD, runB, runBN, runBI, FnI.start, modI, binI, cmpI, imp2, evSs, evS, evE, evEs, evB, evT, evTs, evHd, evTl, evE1, evLL, evI, evIf, evG, evTg, evH, callN, iterN, noStar, notSet, notComp, notSl, plainO, ownV, isaD, tyOf, knownT, isaT, boolD, intOf, strOf, seqOf, opB, opC, negD, scal, Sf.isNon, hndN, isExcK, isStrK, tgNs, tgOf, setTg, itemD, bltC, blt1, blt2, knB, imp2, listD, opN, cmpI, Lk.knows, isOw, lineOk, isTupE, isLT, look_cons, eqO_ii, eqO_bb, eqO_ss, eqO_in, eqO_ni, eqO_ins, eqO_tup, isRev, revD, ixN_nat hk, hd, hy, hc, r60, r5, e]
    exact ⟨xs', _, _, _, _, _, rfl, by omega⟩
theorem numbers_ok (ns : List Int) (hl : ns.length ≤ 63) : ∃ xs : List Int, (evD T (n + 1)).fn "_law_numbers" [.rol (ns.map dI)] = .ret (.fr (xs.map dI)) := by
  have h63 : ¬ (63 : Int) < (ns.length : Int) := by omega
  obtain ⟨ρ', e, _, xs, s2, s3, s4, s5, s6, rfl, hx⟩ := forGo_inv (tg := .one 2) (body := fun ρ => evSs b__law_numbers_L0 (cN (evD T n)) ρ) (fun t ρ => t ≤ ns.length ∧ Inv0 ns (60 * t) ρ) (rgD 0 1 ns.length) 0 [.pu (.rol (ns.map dI)), .ow false [], .no, .no, .no, .no, .no] ⟨by omega, [], .no, .no, .no, .no, .no, rfl, by simp⟩ fun j d ρ hd hi => by
    obtain ⟨rfl, hj⟩ := rgD_at hd
    obtain ⟨ρ3, e3, i3⟩ := turn0 (evD T n) ns j (60 * (0 + j)) hj hl (by omega) ρ hi.2
    exact ⟨_, ρ3, rfl, .inl e3, by omega, by rw [show 60 * (0 + j + 1) = 60 * (0 + j) + 60 by omega]; exact i3⟩
  unfold cN at e
  refine ⟨xs, ?_⟩
  have hr : rngI [dI (if (63 : Int) < (ns.length : Int) then 63 else (ns.length : Int))] = some (rgD 0 1 ns.length) := by
    rw [if_neg h63]
    exact rngN ns.length (by omega)
  rw [cf__law_numbers]; simp only [runB, runBN, runBI]; rw [bL]; (conv in (stAt f__law_numbers.body 0) => whnf); (conv in (lpT _) => whnf); (conv in (lpI _) => whnf); (conv in (stAt f__law_numbers.body 2) => whnf); simp (decide := true) [hot_glob, hotK, cls_int, cls_bool, cls_str, cls_list, cls_tuple, cls_own, sc_calm, sc_top, sc_lk, sc_N, lk_kind, lk_hasM, lk_hasO, lk_isC, lk_isF, lk_exm, lk_rm, lk_call, hot_slot, hot_tslot, hot_calm, hot_top, bind_ok, bind_ex, bind_no, so_ok, so_ex, so_no, dat_ok, dat_ex, dat_no, pu_ok, pu_ex, pu_no, of_some, of_none, sb_nx, sb_rt, sb_bk, sb_ct, sb_ex, sb_no, oc_ret, oc_ex, ocD_ret, ocD_ex, setSl_pu, setSl_fr, dat_pu, dat_fr, flatV, flatD, runB, runBN, runBI, FnI.start, modI, binI, cmpI, imp2, evSs, evS, evE, evEs, evB, evT, evTs, evHd, evTl, evE1, evLL, evI, evIf, evG, evTg, evH, callN, iterN, noStar, notSet, notComp, notSl, plainO, ownV, isaD, tyOf, knownT, isaT, boolD, intOf, strOf, seqOf, opB, opC, negD, scal, Sf.isNon, hndN, isExcK, isStrK, tgNs, tgOf, setTg, itemD, bltC, blt1, blt2, knB, imp2, listD, opN, cmpI, Lk.knows, isOw, lineOk, isTupE, isLT, look_cons, eqO_ii, eqO_bb, eqO_ss, eqO_in, eqO_ni, eqO_ins, eqO_tup, isRev, revD]
  rw [hr]
  simp only [of_some, so_ok]
  rw [e]
  simp (decide := true) [hot_glob, hotK, cls_int, cls_bool, cls_str, cls_list, cls_tuple, cls_own, sc_calm, sc_top, sc_lk, sc_N, lk_kind, lk_hasM, lk_hasO, lk_isC, lk_isF, lk_exm, lk_rm, lk_call, hot_slot, hot_tslot, hot_calm, hot_top, bind_ok, bind_ex, bind_no, so_ok, so_ex, so_no, dat_ok, dat_ex, dat_no, pu_ok, pu_ex, pu_no, of_some, of_none, sb_nx, sb_rt, sb_bk, sb_ct, sb_ex, sb_no, oc_ret, oc_ex, ocD_ret, ocD_ex, setSl_pu, setSl_fr, dat_pu, dat_fr, flatV, flatD, runB, runBN, runBI, FnI.start, modI, binI, cmpI, imp2, evSs, evS, evE, evEs, evB, evT, evTs, evHd, evTl, evE1, evLL, evI, evIf, evG, evTg, evH, callN, iterN, noStar, notSet, notComp, notSl, plainO, ownV, isaD, tyOf, knownT, isaT, boolD, intOf, strOf, seqOf, opB, opC, negD, scal, Sf.isNon, hndN, isExcK, isStrK, tgNs, tgOf, setTg, itemD, bltC, blt1, blt2, knB, imp2, listD, opN, cmpI, Lk.knows, isOw, lineOk, isTupE, isLT, look_cons, eqO_ii, eqO_bb, eqO_ss, eqO_in, eqO_ni, eqO_ins, eqO_tup, isRev, revD]
end
end D08
namespace D08
open PySem L2 Sf Pm
section
variable {α : Type} [Lean.Grind.CommRing α] [DecidableEq α] (G : Gd α) (n : Nat)
def own (g : List α) (x : α) : List α := g.map fun y => y * G.inv x
theorem szL_own {s : Nat} (g : List α) (x : α) (h0 : x ≠ 0) (hg : SzL G s (g ++ [x])) (h1 : 1 ≤ s) : SzL G (s + s) (own G g x ++ [1]) := fun j => by
  have hx : G.Sz s x := szL_mem G hg (by simp)
  rw [co_append]
  split
  · exact G.mono G.sz1 (by omega)
  · unfold own
    rw [co_map (f := fun y => y * G.inv x) (by grind)]
    by_cases hj : j < g.length
    · have := hg j
      rw [co_append, if_neg (by omega)] at this
      exact G.szM this (G.szI hx h0)
    · rw [co_ge (by omega)]
      have : (0 : α) * G.inv x = 0 := by grind
      rw [this]
      exact G.mono G.sz0 (by omega)
theorem law9 (sc : Dat) (us : List Dat) (p : Dat) (f g : List α) (x : α) (h0 : x ≠ 0) (hg : SzL G 3 (g ++ [x])) (lg : g.length ≤ 3) :
    evS (stAt f_law.body 9) cL (at6 G sc us p f (g ++ [x])) = .nx [.pu sc, .ow false us, .pu p, .pu (gnd G.p), .pu (pol G f), .pu (pol G (g ++ [x])), .pu (pol G []), .pu (pol G (own G g x ++ [1]))] := by
  have h1 := monic_ G 4 g x h0 hg (by decide) (by omega)
  rw [own_eq G g x h0] at h1
  change _ = FR.ret (.pu (pol G (own G g x ++ [1]))) at h1
  generalize own G g x ++ [1] = o at *
  generalize g ++ [x] = g at *
  unfold cL at6 pol gnd at *
  (conv in (stAt f_law.body 9) => whnf)
  simp (decide := true) [hot_glob, hotK, cls_int, cls_bool, cls_str, cls_list, cls_tuple, cls_own, sc_calm, sc_top, sc_lk, sc_N, lk_kind, lk_hasM, lk_hasO, lk_isC, lk_isF, lk_exm, lk_rm, lk_call, hot_slot, hot_tslot, hot_calm, hot_top, bind_ok, bind_ex, bind_no, so_ok, so_ex, so_no, dat_ok, dat_ex, dat_no, pu_ok, pu_ex, pu_no, of_some, of_none, sb_nx, sb_rt, sb_bk, sb_ct, sb_ex, sb_no, oc_ret, oc_ex, ocD_ret, ocD_ex, setSl_pu, setSl_fr, dat_pu, dat_fr, flatV, flatD, runB, runBN, runBI, FnI.start, modI, binI, cmpI, imp2, evSs, evS, evE, evEs, evB, evT, evTs, evHd, evTl, evE1, evLL, evI, evIf, evG, evTg, evH, callN, iterN, noStar, notSet, notComp, notSl, plainO, ownV, isaD, tyOf, knownT, isaT, boolD, intOf, strOf, seqOf, opB, opC, negD, scal, Sf.isNon, hndN, isExcK, isStrK, tgNs, tgOf, setTg, itemD, bltC, blt1, blt2, knB, imp2, listD, opN, cmpI, Lk.knows, isOw, lineOk, isTupE, isLT, look_cons, eqO_ii, eqO_bb, eqO_ss, eqO_in, eqO_ni, eqO_ins, eqO_tup, isRev, revD, h1]
theorem law10 (sc : Dat) (us : List Dat) (p : Dat) (f g : List α) (x : α) (h0 : x ≠ 0) (hg : SzL G 3 (g ++ [x])) (lg : g.length ≤ 3) (tg : Tr (g ++ [x])) :
    ∃ ρ, evS (stAt f_law.body 10) cL [.pu sc, .ow false us, .pu p, .pu (gnd G.p), .pu (pol G f), .pu (pol G (g ++ [x])), .pu (pol G []), .pu (pol G (own G g x ++ [1]))] = .rt (.pu (dB true)) ρ := by
  have hx : G.Sz 3 x := szL_mem G hg (by simp)
  have zo := szL_own G g x h0 hg (by decide)
  have ho := G.one 8
  have he := G.eqv 8 1 1
  rw [decide_eq_true rfl] at he
  have h1 := scaled_ G 5 (own G g x ++ [1]) x zo hx (by decide) (by simp [own]; omega)
  have hob : trim ((own G g x ++ [(1 : α)]).map (fun y => y * x)) = g ++ [x] := own_back G g x h0 tg
  rw [hob] at h1
  have h2 := eq_ G 7 (g ++ [x])
  have lo : (own G g x).length = g.length := by simp [own]
  have hp : 2 ^ (g ++ [x]).length ≤ 2 ^ 4 := Nat.pow_le_pow_right (by decide) (by simp; omega)
  obtain ⟨hd, _, _⟩ := dv_ G 4 (g ++ [x]) (own G g x) 1 G.ne hg zo (S := 640) (by
    have : 2 ^ (g ++ [x]).length * (3 + (3 + 3) + (3 + 3) + 1) ≤ 2 ^ 4 * (3 + (3 + 3) + (3 + 3) + 1) := Nat.mul_le_mul_right _ hp
    omega) (by decide) (by decide) (by simp; omega) (by omega) (by decide)
  have h3 := mod_ G 4 (g ++ [x]) (own G g x ++ [1]) _ _ hd
  have hrs : trim (dvR G (g ++ [x]) (own G g x) (1 : α)).1 = [] := own_rest G g x h0
  rw [hrs] at h3
  have h4 := isz_ G 13 ([] : List α)
  rw [decide_eq_true rfl] at h4
  have h5 := ixN_last g.length
  have h6 : (g.map G.D ++ [G.D x])[g.length]? = some (G.D x) := by rw [List.getElem?_append_right (by simp)]; simp
  have h7 := ixN_last (own G g x).length
  have h8 : ((own G g x).map G.D ++ [G.D 1])[(own G g x).length]? = some (G.D 1) := by rw [List.getElem?_append_right (by simp)]; simp
  have h9 : (own G g x).length = g.length := lo
  have oe := G.oe
  have ic := G.isC
  rw [h9] at h8
  clear hd hp zo h7
  generalize own G g x = o at *
  unfold cL pol gnd at *
  rw [List.map_nil] at *
  simp only [List.map_append, List.map_cons, List.map_nil] at *
  simp only [Gd.D] at h1 h2 h3 h6 h8
  (conv in (stAt f_law.body 10) => whnf)
  simp (decide := true) [hot_glob, hotK, cls_int, cls_bool, cls_str, cls_list, cls_tuple, cls_own, sc_calm, sc_top, sc_lk, sc_N, lk_kind, lk_hasM, lk_hasO, lk_isC, lk_isF, lk_exm, lk_rm, lk_call, hot_slot, hot_tslot, hot_calm, hot_top, bind_ok, bind_ex, bind_no, so_ok, so_ex, so_no, dat_ok, dat_ex, dat_no, pu_ok, pu_ex, pu_no, of_some, of_none, sb_nx, sb_rt, sb_bk, sb_ct, sb_ex, sb_no, oc_ret, oc_ex, ocD_ret, ocD_ex, setSl_pu, setSl_fr, dat_pu, dat_fr, flatV, flatD, runB, runBN, runBI, FnI.start, modI, binI, cmpI, imp2, evSs, evS, evE, evEs, evB, evT, evTs, evHd, evTl, evE1, evLL, evI, evIf, evG, evTg, evH, callN, iterN, noStar, notSet, notComp, notSl, plainO, ownV, isaD, tyOf, knownT, isaT, boolD, intOf, strOf, seqOf, opB, opC, negD, scal, Sf.isNon, hndN, isExcK, isStrK, tgNs, tgOf, setTg, itemD, bltC, blt1, blt2, knB, imp2, listD, opN, cmpI, Lk.knows, isOw, lineOk, isTupE, isLT, look_cons, eqO_ii, eqO_bb, eqO_ss, eqO_in, eqO_ni, eqO_ins, eqO_tup, isRev, revD, ho, he, h1, h2, h3, h4, h5, h6, h8, h9, oe, ic, Gd.D]
end
end D08
namespace D08
open PySem L2 Sf Pm
section
variable (n : Nat)
theorem next0 (m : Int) : (evD T (n + 1)).fnN "_law_next" [] [dI m] = .ret (.pu (dI 0)) [] := by
  rw [cf__law_next]; simp only [runB, runBN, runBI]; (conv in (FnI.body f__law_next) => whnf); simp (decide := true) [hot_glob, hotK, cls_int, cls_bool, cls_str, cls_list, cls_tuple, cls_own, sc_calm, sc_top, sc_lk, sc_N, lk_kind, lk_hasM, lk_hasO, lk_isC, lk_isF, lk_exm, lk_rm, lk_call, hot_slot, hot_tslot, hot_calm, hot_top, bind_ok, bind_ex, bind_no, so_ok, so_ex, so_no, dat_ok, dat_ex, dat_no, pu_ok, pu_ex, pu_no, of_some, of_none, sb_nx, sb_rt, sb_bk, sb_ct, sb_ex, sb_no, oc_ret, oc_ex, ocD_ret, ocD_ex, setSl_pu, setSl_fr, dat_pu, dat_fr, flatV, flatD, runB, runBN, runBI, FnI.start, modI, binI, cmpI, imp2, evSs, evS, evE, evEs, evB, evT, evTs, evHd, evTl, evE1, evLL, evI, evIf, evG, evTg, evH, callN, iterN, noStar, notSet, notComp, notSl, plainO, ownV, isaD, tyOf, knownT, isaT, boolD, intOf, strOf, seqOf, opB, opC, negD, scal, Sf.isNon, hndN, isExcK, isStrK, tgNs, tgOf, setTg, itemD, bltC, blt1, blt2, knB, imp2, listD, opN, cmpI, Lk.knows, isOw, lineOk, isTupE, isLT, look_cons, eqO_ii, eqO_bb, eqO_ss, eqO_in, eqO_ni, eqO_ins, eqO_tup, isRev, revD]
theorem next1 (x m : Int) (us : List Dat) (h : 0 < m) : (evD T (n + 1)).fnN "_law_next" (dI x :: us) [dI m] = .ret (.pu (dI (x % m))) us := by
  have hl : ¬ ((us.length : Int) + 1 = 0) := by omega
  rw [cf__law_next]; simp only [runB, runBN, runBI]; (conv in (FnI.body f__law_next) => whnf); simp (decide := true) [hot_glob, hotK, cls_int, cls_bool, cls_str, cls_list, cls_tuple, cls_own, sc_calm, sc_top, sc_lk, sc_N, lk_kind, lk_hasM, lk_hasO, lk_isC, lk_isF, lk_exm, lk_rm, lk_call, hot_slot, hot_tslot, hot_calm, hot_top, bind_ok, bind_ex, bind_no, so_ok, so_ex, so_no, dat_ok, dat_ex, dat_no, pu_ok, pu_ex, pu_no, of_some, of_none, sb_nx, sb_rt, sb_bk, sb_ct, sb_ex, sb_no, oc_ret, oc_ex, ocD_ret, ocD_ex, setSl_pu, setSl_fr, dat_pu, dat_fr, flatV, flatD, runB, runBN, runBI, FnI.start, modI, binI, cmpI, imp2, evSs, evS, evE, evEs, evB, evT, evTs, evHd, evTl, evE1, evLL, evI, evIf, evG, evTg, evH, callN, iterN, noStar, notSet, notComp, notSl, plainO, ownV, isaD, tyOf, knownT, isaT, boolD, intOf, strOf, seqOf, opB, opC, negD, scal, Sf.isNon, hndN, isExcK, isStrK, tgNs, tgOf, setTg, itemD, bltC, blt1, blt2, knB, imp2, listD, opN, cmpI, Lk.knows, isOw, lineOk, isTupE, isLT, look_cons, eqO_ii, eqO_bb, eqO_ss, eqO_in, eqO_ni, eqO_ins, eqO_tup, isRev, revD, h, hl, ownM]
theorem next_ok (m : Int) (hm : 0 < m) (xs : List Int) : ∃ (r : Int) (ys : List Int), 0 ≤ r ∧ r < m ∧ (evD T (n + 1)).fnN "_law_next" (xs.map dI) [dI m] = .ret (.pu (dI r)) (ys.map dI) := by
  cases xs with
  | nil => exact ⟨0, [], by omega, hm, next0 n m⟩
  | cons x xs => exact ⟨x % m, xs, Int.emod_nonneg _ (by omega), Int.emod_lt_of_pos _ hm, next1 n x m (xs.map dI) hm⟩
/-- the chosen primes -/
def Pr (p : Int) : Prop := p = 0 ∨ p = 2 ∨ p = 3 ∨ p = 5
theorem prime_ok (xs : List Int) : ∃ (p : Int) (ys : List Int), Pr p ∧ (evD T (n + 2)).fnN "_law_prime" (xs.map dI) [] = .ret (.pu (dI p)) (ys.map dI) := by
  obtain ⟨r, ys, h0, h1, e⟩ := next_ok n 4 (by decide) xs
  have hr : r = 0 ∨ r = 1 ∨ r = 2 ∨ r = 3 := by omega
  rcases hr with rfl | rfl | rfl | rfl
  · have h : ixN 4 (0 : Int) = some 0 := by decide
    exact ⟨0, ys, .inl rfl, by rw [cf__law_prime]; simp only [runB, runBN, runBI]; (conv in (FnI.body f__law_prime) => whnf); simp (decide := true) [hot_glob, hotK, cls_int, cls_bool, cls_str, cls_list, cls_tuple, cls_own, sc_calm, sc_top, sc_lk, sc_N, lk_kind, lk_hasM, lk_hasO, lk_isC, lk_isF, lk_exm, lk_rm, lk_call, hot_slot, hot_tslot, hot_calm, hot_top, bind_ok, bind_ex, bind_no, so_ok, so_ex, so_no, dat_ok, dat_ex, dat_no, pu_ok, pu_ex, pu_no, of_some, of_none, sb_nx, sb_rt, sb_bk, sb_ct, sb_ex, sb_no, oc_ret, oc_ex, ocD_ret, ocD_ex, setSl_pu, setSl_fr, dat_pu, dat_fr, flatV, flatD, runB, runBN, runBI, FnI.start, modI, binI, cmpI, imp2, evSs, evS, evE, evEs, evB, evT, evTs, evHd, evTl, evE1, evLL, evI, evIf, evG, evTg, evH, callN, iterN, noStar, notSet, notComp, notSl, plainO, ownV, isaD, tyOf, knownT, isaT, boolD, intOf, strOf, seqOf, opB, opC, negD, scal, Sf.isNon, hndN, isExcK, isStrK, tgNs, tgOf, setTg, itemD, bltC, blt1, blt2, knB, imp2, listD, opN, cmpI, Lk.knows, isOw, lineOk, isTupE, isLT, look_cons, eqO_ii, eqO_bb, eqO_ss, eqO_in, eqO_ni, eqO_ins, eqO_tup, isRev, revD, e, h]⟩
  · have h : ixN 4 (1 : Int) = some 1 := by decide
    exact ⟨2, ys, .inr (.inl rfl), by rw [cf__law_prime]; simp only [runB, runBN, runBI]; (conv in (FnI.body f__law_prime) => whnf); simp (decide := true) [hot_glob, hotK, cls_int, cls_bool, cls_str, cls_list, cls_tuple, cls_own, sc_calm, sc_top, sc_lk, sc_N, lk_kind, lk_hasM, lk_hasO, lk_isC, lk_isF, lk_exm, lk_rm, lk_call, hot_slot, hot_tslot, hot_calm, hot_top, bind_ok, bind_ex, bind_no, so_ok, so_ex, so_no, dat_ok, dat_ex, dat_no, pu_ok, pu_ex, pu_no, of_some, of_none, sb_nx, sb_rt, sb_bk, sb_ct, sb_ex, sb_no, oc_ret, oc_ex, ocD_ret, ocD_ex, setSl_pu, setSl_fr, dat_pu, dat_fr, flatV, flatD, runB, runBN, runBI, FnI.start, modI, binI, cmpI, imp2, evSs, evS, evE, evEs, evB, evT, evTs, evHd, evTl, evE1, evLL, evI, evIf, evG, evTg, evH, callN, iterN, noStar, notSet, notComp, notSl, plainO, ownV, isaD, tyOf, knownT, isaT, boolD, intOf, strOf, seqOf, opB, opC, negD, scal, Sf.isNon, hndN, isExcK, isStrK, tgNs, tgOf, setTg, itemD, bltC, blt1, blt2, knB, imp2, listD, opN, cmpI, Lk.knows, isOw, lineOk, isTupE, isLT, look_cons, eqO_ii, eqO_bb, eqO_ss, eqO_in, eqO_ni, eqO_ins, eqO_tup, isRev, revD, e, h]⟩
  · have h : ixN 4 (2 : Int) = some 2 := by decide
    exact ⟨3, ys, .inr (.inr (.inl rfl)), by rw [cf__law_prime]; simp only [runB, runBN, runBI]; (conv in (FnI.body f__law_prime) => whnf); simp (decide := true) [hot_glob, hotK, cls_int, cls_bool, cls_str, cls_list, cls_tuple, cls_own, sc_calm, sc_top, sc_lk, sc_N, lk_kind, lk_hasM, lk_hasO, lk_isC, lk_isF, lk_exm, lk_rm, lk_call, hot_slot, hot_tslot, hot_calm, hot_top, bind_ok, bind_ex, bind_no, so_ok, so_ex, so_no, dat_ok, dat_ex, dat_no, pu_ok, pu_ex, pu_no, of_some, of_none, sb_nx, sb_rt, sb_bk, sb_ct, sb_ex, sb_no, oc_ret, oc_ex, ocD_ret, ocD_ex, setSl_pu, setSl_fr, dat_pu, dat_fr, flatV, flatD, runB, runBN, runBI, FnI.start, modI, binI, cmpI, imp2, evSs, evS, evE, evEs, evB, evT, evTs, evHd, evTl, evE1, evLL, evI, evIf, evG, evTg, evH, callN, iterN, noStar, notSet, notComp, notSl, plainO, ownV, isaD, tyOf, knownT, isaT, boolD, intOf, strOf, seqOf, opB, opC, negD, scal, Sf.isNon, hndN, isExcK, isStrK, tgNs, tgOf, setTg, itemD, bltC, blt1, blt2, knB, imp2, listD, opN, cmpI, Lk.knows, isOw, lineOk, isTupE, isLT, look_cons, eqO_ii, eqO_bb, eqO_ss, eqO_in, eqO_ni, eqO_ins, eqO_tup, isRev, revD, e, h]⟩
  · have h : ixN 4 (3 : Int) = some 3 := by decide
    exact ⟨5, ys, .inr (.inr (.inr rfl)), by rw [cf__law_prime]; simp only [runB, runBN, runBI]; (conv in (FnI.body f__law_prime) => whnf); simp (decide := true) [hot_glob, hotK, cls_int, cls_bool, cls_str, cls_list, cls_tuple, cls_own, sc_calm, sc_top, sc_lk, sc_N, lk_kind, lk_hasM, lk_hasO, lk_isC, lk_isF, lk_exm, lk_rm, lk_call, hot_slot, hot_tslot, hot_calm, hot_top, bind_ok, bind_ex, bind_no, so_ok, so_ex, so_no, dat_ok, dat_ex, dat_no, pu_ok, pu_ex, pu_no, of_some, of_none, sb_nx, sb_rt, sb_bk, sb_ct, sb_ex, sb_no, oc_ret, oc_ex, ocD_ret, ocD_ex, setSl_pu, setSl_fr, dat_pu, dat_fr, flatV, flatD, runB, runBN, runBI, FnI.start, modI, binI, cmpI, imp2, evSs, evS, evE, evEs, evB, evT, evTs, evHd, evTl, evE1, evLL, evI, evIf, evG, evTg, evH, callN, iterN, noStar, notSet, notComp, notSl, plainO, ownV, isaD, tyOf, knownT, isaT, boolD, intOf, strOf, seqOf, opB, opC, negD, scal, Sf.isNon, hndN, isExcK, isStrK, tgNs, tgOf, setTg, itemD, bltC, blt1, blt2, knB, imp2, listD, opN, cmpI, Lk.knows, isOw, lineOk, isTupE, isLT, look_cons, eqO_ii, eqO_bb, eqO_ss, eqO_in, eqO_ni, eqO_ins, eqO_tup, isRev, revD, e, h]⟩
theorem ground_ok (p : Int) (h : Pr p) : (evD T (n + 4)).fn "_law_ground" [dI p] = .ret (.pu (gnd p)) := by
  have h1 := gnd_mkd n
  have h2 : p ≠ 0 → (evD T (n + 3)).mkI "Ground" [dI p] = .ret (.pu (gnd p)) := fun hp => gnd_mk n p (by rcases h with rfl | rfl | rfl | rfl <;> first | exact absurd rfl hp | decide) (by rcases h with rfl | rfl | rfl | rfl <;> first | exact absurd rfl hp | decide)
  by_cases h0 : p = 0
  · subst h0
    rw [cf__law_ground]; simp only [runB, runBN, runBI]; (conv in (FnI.body f__law_ground) => whnf); simp (decide := true) [hot_glob, hotK, cls_int, cls_bool, cls_str, cls_list, cls_tuple, cls_own, sc_calm, sc_top, sc_lk, sc_N, lk_kind, lk_hasM, lk_hasO, lk_isC, lk_isF, lk_exm, lk_rm, lk_call, hot_slot, hot_tslot, hot_calm, hot_top, bind_ok, bind_ex, bind_no, so_ok, so_ex, so_no, dat_ok, dat_ex, dat_no, pu_ok, pu_ex, pu_no, of_some, of_none, sb_nx, sb_rt, sb_bk, sb_ct, sb_ex, sb_no, oc_ret, oc_ex, ocD_ret, ocD_ex, setSl_pu, setSl_fr, dat_pu, dat_fr, flatV, flatD, runB, runBN, runBI, FnI.start, modI, binI, cmpI, imp2, evSs, evS, evE, evEs, evB, evT, evTs, evHd, evTl, evE1, evLL, evI, evIf, evG, evTg, evH, callN, iterN, noStar, notSet, notComp, notSl, plainO, ownV, isaD, tyOf, knownT, isaT, boolD, intOf, strOf, seqOf, opB, opC, negD, scal, Sf.isNon, hndN, isExcK, isStrK, tgNs, tgOf, setTg, itemD, bltC, blt1, blt2, knB, imp2, listD, opN, cmpI, Lk.knows, isOw, lineOk, isTupE, isLT, look_cons, eqO_ii, eqO_bb, eqO_ss, eqO_in, eqO_ni, eqO_ins, eqO_tup, isRev, revD, h1]
  · have h2 := h2 h0
    rw [cf__law_ground]; simp only [runB, runBN, runBI]; (conv in (FnI.body f__law_ground) => whnf); simp (decide := true) [hot_glob, hotK, cls_int, cls_bool, cls_str, cls_list, cls_tuple, cls_own, sc_calm, sc_top, sc_lk, sc_N, lk_kind, lk_hasM, lk_hasO, lk_isC, lk_isF, lk_exm, lk_rm, lk_call, hot_slot, hot_tslot, hot_calm, hot_top, bind_ok, bind_ex, bind_no, so_ok, so_ex, so_no, dat_ok, dat_ex, dat_no, pu_ok, pu_ex, pu_no, of_some, of_none, sb_nx, sb_rt, sb_bk, sb_ct, sb_ex, sb_no, oc_ret, oc_ex, ocD_ret, ocD_ex, setSl_pu, setSl_fr, dat_pu, dat_fr, flatV, flatD, runB, runBN, runBI, FnI.start, modI, binI, cmpI, imp2, evSs, evS, evE, evEs, evB, evT, evTs, evHd, evTl, evE1, evLL, evI, evIf, evG, evTg, evH, callN, iterN, noStar, notSet, notComp, notSl, plainO, ownV, isaD, tyOf, knownT, isaT, boolD, intOf, strOf, seqOf, opB, opC, negD, scal, Sf.isNon, hndN, isExcK, isStrK, tgNs, tgOf, setTg, itemD, bltC, blt1, blt2, knB, imp2, listD, opN, cmpI, Lk.knows, isOw, lineOk, isTupE, isLT, look_cons, eqO_ii, eqO_bb, eqO_ss, eqO_in, eqO_ni, eqO_ins, eqO_tup, isRev, revD, h2, h0]
theorem rest_ok (p x : Int) (h : Pr p) (hx : x.natAbs ≤ 4) : ∃ c : Int, c.natAbs ≤ 4 ∧ (evD T (n + 1)).fn "_law_rest" [dI p, dI x] = .ret (.pu (dI c)) := by
  by_cases h0 : p = 0
  · subst h0
    exact ⟨x, hx, by rw [cf__law_rest]; simp only [runB, runBN, runBI]; (conv in (FnI.body f__law_rest) => whnf); simp (decide := true) [hot_glob, hotK, cls_int, cls_bool, cls_str, cls_list, cls_tuple, cls_own, sc_calm, sc_top, sc_lk, sc_N, lk_kind, lk_hasM, lk_hasO, lk_isC, lk_isF, lk_exm, lk_rm, lk_call, hot_slot, hot_tslot, hot_calm, hot_top, bind_ok, bind_ex, bind_no, so_ok, so_ex, so_no, dat_ok, dat_ex, dat_no, pu_ok, pu_ex, pu_no, of_some, of_none, sb_nx, sb_rt, sb_bk, sb_ct, sb_ex, sb_no, oc_ret, oc_ex, ocD_ret, ocD_ex, setSl_pu, setSl_fr, dat_pu, dat_fr, flatV, flatD, runB, runBN, runBI, FnI.start, modI, binI, cmpI, imp2, evSs, evS, evE, evEs, evB, evT, evTs, evHd, evTl, evE1, evLL, evI, evIf, evG, evTg, evH, callN, iterN, noStar, notSet, notComp, notSl, plainO, ownV, isaD, tyOf, knownT, isaT, boolD, intOf, strOf, seqOf, opB, opC, negD, scal, Sf.isNon, hndN, isExcK, isStrK, tgNs, tgOf, setTg, itemD, bltC, blt1, blt2, knB, imp2, listD, opN, cmpI, Lk.knows, isOw, lineOk, isTupE, isLT, look_cons, eqO_ii, eqO_bb, eqO_ss, eqO_in, eqO_ni, eqO_ins, eqO_tup, isRev, revD]⟩
  · have hp : 0 < p ∧ p ≤ 5 := by rcases h with rfl | rfl | rfl | rfl <;> first | exact absurd rfl h0 | exact ⟨by decide, by decide⟩
    have hpp := hp.1
    refine ⟨x % p, ?_, by rw [cf__law_rest]; simp only [runB, runBN, runBI]; (conv in (FnI.body f__law_rest) => whnf); simp (decide := true) [hot_glob, hotK, cls_int, cls_bool, cls_str, cls_list, cls_tuple, cls_own, sc_calm, sc_top, sc_lk, sc_N, lk_kind, lk_hasM, lk_hasO, lk_isC, lk_isF, lk_exm, lk_rm, lk_call, hot_slot, hot_tslot, hot_calm, hot_top, bind_ok, bind_ex, bind_no, so_ok, so_ex, so_no, dat_ok, dat_ex, dat_no, pu_ok, pu_ex, pu_no, of_some, of_none, sb_nx, sb_rt, sb_bk, sb_ct, sb_ex, sb_no, oc_ret, oc_ex, ocD_ret, ocD_ex, setSl_pu, setSl_fr, dat_pu, dat_fr, flatV, flatD, runB, runBN, runBI, FnI.start, modI, binI, cmpI, imp2, evSs, evS, evE, evEs, evB, evT, evTs, evHd, evTl, evE1, evLL, evI, evIf, evG, evTg, evH, callN, iterN, noStar, notSet, notComp, notSl, plainO, ownV, isaD, tyOf, knownT, isaT, boolD, intOf, strOf, seqOf, opB, opC, negD, scal, Sf.isNon, hndN, isExcK, isStrK, tgNs, tgOf, setTg, itemD, bltC, blt1, blt2, knB, imp2, listD, opN, cmpI, Lk.knows, isOw, lineOk, isTupE, isLT, look_cons, eqO_ii, eqO_bb, eqO_ss, eqO_in, eqO_ni, eqO_ins, eqO_tup, isRev, revD, h0, hpp]⟩
    have h1 := Int.emod_nonneg x h0
    have h2 := Int.emod_lt_of_pos x hpp
    omega
/-! ### _law_trim -/
abbrev wT : Stmt := stAt f__law_trim.body 1
theorem bTr : f__law_trim.body = [stAt f__law_trim.body 0, .While (whT wT) (whB wT) [] (stP wT), stAt f__law_trim.body 2] := by kernel_rfl
theorem trim_ok (l : List Int) (hl : l.length ≤ 1000) : ∃ m : List Int, m.length ≤ l.length ∧ (∀ c ∈ m, c ∈ l) ∧ (evD T (n + 1)).fn "_law_trim" [.lst (l.map dI)] = .ret (.fr (m.map dI)) := by
  have st : ∀ k ρ, (∃ m : List Int, ρ = [Sl.ow false (m.map dI)] ∧ m.length ≤ k ∧ m.length ≤ l.length ∧ ∀ c ∈ m, c ∈ l) → (∃ ρ2, evT (whT wT) (T.sc f__law_trim (evD T n)) ρ (evE (whT wT) (T.sc f__law_trim (evD T n)) ρ) = .ok false ρ2 ∧ ∃ m : List Int, ρ2 = [Sl.ow false (m.map dI)] ∧ m.length ≤ l.length ∧ ∀ c ∈ m, c ∈ l) ∨ (∃ k' ρ2 ρ3, k = k' + 1 ∧ evT (whT wT) (T.sc f__law_trim (evD T n)) ρ (evE (whT wT) (T.sc f__law_trim (evD T n)) ρ) = .ok true ρ2 ∧ evSs (whB wT) (T.sc f__law_trim (evD T n)) ρ2 = .nx ρ3 ∧ (∃ m : List Int, ρ3 = [Sl.ow false (m.map dI)] ∧ m.length ≤ k' ∧ m.length ≤ l.length ∧ ∀ c ∈ m, c ∈ l)) := by
    rintro k ρ ⟨m, rfl, hk, hm, hc⟩
    rcases List.eq_nil_or_concat m with rfl | ⟨m', x, rfl⟩
    · refine .inl ⟨_, ?_, [], rfl, hm, hc⟩
      (conv in (whT wT) => whnf); simp (decide := true) [hot_glob, hotK, cls_int, cls_bool, cls_str, cls_list, cls_tuple, cls_own, sc_calm, sc_top, sc_lk, sc_N, lk_kind, lk_hasM, lk_hasO, lk_isC, lk_isF, lk_exm, lk_rm, lk_call, hot_slot, hot_tslot, hot_calm, hot_top, bind_ok, bind_ex, bind_no, so_ok, so_ex, so_no, dat_ok, dat_ex, dat_no, pu_ok, pu_ex, pu_no, of_some, of_none, sb_nx, sb_rt, sb_bk, sb_ct, sb_ex, sb_no, oc_ret, oc_ex, ocD_ret, ocD_ex, setSl_pu, setSl_fr, dat_pu, dat_fr, flatV, flatD, runB, runBN, runBI, FnI.start, modI, binI, cmpI, imp2, evSs, evS, evE, evEs, evB, evT, evTs, evHd, evTl, evE1, evLL, evI, evIf, evG, evTg, evH, callN, iterN, noStar, notSet, notComp, notSl, plainO, ownV, isaD, tyOf, knownT, isaT, boolD, intOf, strOf, seqOf, opB, opC, negD, scal, Sf.isNon, hndN, isExcK, isStrK, tgNs, tgOf, setTg, itemD, bltC, blt1, blt2, knB, imp2, listD, opN, cmpI, Lk.knows, isOw, lineOk, isTupE, isLT, look_cons, eqO_ii, eqO_bb, eqO_ss, eqO_in, eqO_ni, eqO_ins, eqO_tup, isRev, revD]
    · simp only [List.concat_eq_append] at *
      have h1 : (0 : Int) < (m'.length : Int) + 1 := by omega
      have h2 := ixN_last m'.length
      have h3 : (m'.map dI ++ [dI x])[m'.length]? = some (dI x) := by rw [List.getElem?_append_right (by simp)]; simp
      have h4 := popD_last (m'.map dI) (dI x)
      rw [List.length_append, List.length_singleton] at hk hm
      have e1 : evT (whT wT) (T.sc f__law_trim (evD T n)) [Sl.ow false ((m' ++ [x]).map dI)] (evE (whT wT) (T.sc f__law_trim (evD T n)) [Sl.ow false ((m' ++ [x]).map dI)]) = .ok (decide (x = 0)) [Sl.ow false ((m' ++ [x]).map dI)] := by
        rw [List.map_append, List.map_cons, List.map_nil]
        (conv in (whT wT) => whnf); simp (decide := true) [hot_glob, hotK, cls_int, cls_bool, cls_str, cls_list, cls_tuple, cls_own, sc_calm, sc_top, sc_lk, sc_N, lk_kind, lk_hasM, lk_hasO, lk_isC, lk_isF, lk_exm, lk_rm, lk_call, hot_slot, hot_tslot, hot_calm, hot_top, bind_ok, bind_ex, bind_no, so_ok, so_ex, so_no, dat_ok, dat_ex, dat_no, pu_ok, pu_ex, pu_no, of_some, of_none, sb_nx, sb_rt, sb_bk, sb_ct, sb_ex, sb_no, oc_ret, oc_ex, ocD_ret, ocD_ex, setSl_pu, setSl_fr, dat_pu, dat_fr, flatV, flatD, runB, runBN, runBI, FnI.start, modI, binI, cmpI, imp2, evSs, evS, evE, evEs, evB, evT, evTs, evHd, evTl, evE1, evLL, evI, evIf, evG, evTg, evH, callN, iterN, noStar, notSet, notComp, notSl, plainO, ownV, isaD, tyOf, knownT, isaT, boolD, intOf, strOf, seqOf, opB, opC, negD, scal, Sf.isNon, hndN, isExcK, isStrK, tgNs, tgOf, setTg, itemD, bltC, blt1, blt2, knB, imp2, listD, opN, cmpI, Lk.knows, isOw, lineOk, isTupE, isLT, look_cons, eqO_ii, eqO_bb, eqO_ss, eqO_in, eqO_ni, eqO_ins, eqO_tup, isRev, revD, h1, h2, h3]
      by_cases hx : x = 0
      · refine .inr ⟨k - 1, _, [Sl.ow false (m'.map dI)], by omega, by rw [e1, decide_eq_true hx], ?_, m', rfl, by omega, by omega, fun c hcm => hc c (List.mem_append_left _ hcm)⟩
        rw [List.map_append, List.map_cons, List.map_nil]
        (conv in (whB wT) => whnf); simp (decide := true) [hot_glob, hotK, cls_int, cls_bool, cls_str, cls_list, cls_tuple, cls_own, sc_calm, sc_top, sc_lk, sc_N, lk_kind, lk_hasM, lk_hasO, lk_isC, lk_isF, lk_exm, lk_rm, lk_call, hot_slot, hot_tslot, hot_calm, hot_top, bind_ok, bind_ex, bind_no, so_ok, so_ex, so_no, dat_ok, dat_ex, dat_no, pu_ok, pu_ex, pu_no, of_some, of_none, sb_nx, sb_rt, sb_bk, sb_ct, sb_ex, sb_no, oc_ret, oc_ex, ocD_ret, ocD_ex, setSl_pu, setSl_fr, dat_pu, dat_fr, flatV, flatD, runB, runBN, runBI, FnI.start, modI, binI, cmpI, imp2, evSs, evS, evE, evEs, evB, evT, evTs, evHd, evTl, evE1, evLL, evI, evIf, evG, evTg, evH, callN, iterN, noStar, notSet, notComp, notSl, plainO, ownV, isaD, tyOf, knownT, isaT, boolD, intOf, strOf, seqOf, opB, opC, negD, scal, Sf.isNon, hndN, isExcK, isStrK, tgNs, tgOf, setTg, itemD, bltC, blt1, blt2, knB, imp2, listD, opN, cmpI, Lk.knows, isOw, lineOk, isTupE, isLT, look_cons, eqO_ii, eqO_bb, eqO_ss, eqO_in, eqO_ni, eqO_ins, eqO_tup, isRev, revD, ownM, h4]
      · exact .inl ⟨_, by rw [e1, decide_eq_false hx], m' ++ [x], rfl, by rw [List.length_append, List.length_singleton]; omega, hc⟩
  obtain ⟨ρ', e, m, rfl, hm, hc⟩ := whileGo_inv (tst := fun ρ => evT (whT wT) (T.sc f__law_trim (evD T n)) ρ (evE (whT wT) (T.sc f__law_trim (evD T n)) ρ)) (body := fun ρ => evSs (whB wT) (T.sc f__law_trim (evD T n)) ρ) (fun k ρ => ∃ m : List Int, ρ = [Sl.ow false (m.map dI)] ∧ m.length ≤ k ∧ m.length ≤ l.length ∧ ∀ c ∈ m, c ∈ l) (fun ρ => ∃ m : List Int, ρ = [Sl.ow false (m.map dI)] ∧ m.length ≤ l.length ∧ ∀ c ∈ m, c ∈ l) st LF l.length [Sl.ow false (l.map dI)] (Nat.lt_of_le_of_lt hl (by decide)) ⟨l, rfl, Nat.le_refl _, Nat.le_refl _, fun _ h => h⟩
  refine ⟨m, hm, hc, ?_⟩
  rw [cf__law_trim]; simp only [runB, runBN, runBI]; rw [bTr]; (conv in (stAt f__law_trim.body 0) => whnf); (conv in (stAt f__law_trim.body 2) => whnf)
  simp (decide := true) [hot_glob, hotK, cls_int, cls_bool, cls_str, cls_list, cls_tuple, cls_own, sc_calm, sc_top, sc_lk, sc_N, lk_kind, lk_hasM, lk_hasO, lk_isC, lk_isF, lk_exm, lk_rm, lk_call, hot_slot, hot_tslot, hot_calm, hot_top, bind_ok, bind_ex, bind_no, so_ok, so_ex, so_no, dat_ok, dat_ex, dat_no, pu_ok, pu_ex, pu_no, of_some, of_none, sb_nx, sb_rt, sb_bk, sb_ct, sb_ex, sb_no, oc_ret, oc_ex, ocD_ret, ocD_ex, setSl_pu, setSl_fr, dat_pu, dat_fr, flatV, flatD, runB, runBN, runBI, FnI.start, modI, binI, cmpI, imp2, evSs, evS, evE, evEs, evB, evT, evTs, evHd, evTl, evE1, evLL, evI, evIf, evG, evTg, evH, callN, iterN, noStar, notSet, notComp, notSl, plainO, ownV, isaD, tyOf, knownT, isaT, boolD, intOf, strOf, seqOf, opB, opC, negD, scal, Sf.isNon, hndN, isExcK, isStrK, tgNs, tgOf, setTg, itemD, bltC, blt1, blt2, knB, imp2, listD, opN, cmpI, Lk.knows, isOw, lineOk, isTupE, isLT, look_cons, eqO_ii, eqO_bb, eqO_ss, eqO_in, eqO_ni, eqO_ins, eqO_tup, isRev, revD, evS_while]
  rw [e]
  simp (decide := true) [hot_glob, hotK, cls_int, cls_bool, cls_str, cls_list, cls_tuple, cls_own, sc_calm, sc_top, sc_lk, sc_N, lk_kind, lk_hasM, lk_hasO, lk_isC, lk_isF, lk_exm, lk_rm, lk_call, hot_slot, hot_tslot, hot_calm, hot_top, bind_ok, bind_ex, bind_no, so_ok, so_ex, so_no, dat_ok, dat_ex, dat_no, pu_ok, pu_ex, pu_no, of_some, of_none, sb_nx, sb_rt, sb_bk, sb_ct, sb_ex, sb_no, oc_ret, oc_ex, ocD_ret, ocD_ex, setSl_pu, setSl_fr, dat_pu, dat_fr, flatV, flatD, runB, runBN, runBI, FnI.start, modI, binI, cmpI, imp2, evSs, evS, evE, evEs, evB, evT, evTs, evHd, evTl, evE1, evLL, evI, evIf, evG, evTg, evH, callN, iterN, noStar, notSet, notComp, notSl, plainO, ownV, isaD, tyOf, knownT, isaT, boolD, intOf, strOf, seqOf, opB, opC, negD, scal, Sf.isNon, hndN, isExcK, isStrK, tgNs, tgOf, setTg, itemD, bltC, blt1, blt2, knB, imp2, listD, opN, cmpI, Lk.knows, isOw, lineOk, isTupE, isLT, look_cons, eqO_ii, eqO_bb, eqO_ss, eqO_in, eqO_ni, eqO_ins, eqO_tup, isRev, revD]
/-! ### _law_row -/
theorem wipR (a b c : Sl) : wip [a, b, c, .no] [3] = [a, b, c, .no] := rfl
theorem bakR (a b c : Sl) : bak [a, b, c, .no] [a, b, c, .no] [3] = [a, b, c, .no] := rfl
theorem wipR2 (a b c d : Sl) : wip [a, b, c, d] [3] = [a, b, c, .no] := rfl
theorem bakR2 (a b c x : Sl) : bak [a, b, c, .no] [x, b, c, .no] [3] = [x, b, c, .no] := rfl
theorem row_ok (p most : Int) (hp : Pr p) (hm : 0 ≤ most ∧ most ≤ 5) (xs : List Int) : ∃ (cs ys : List Int), (cs.length : Int) ≤ most + 1 ∧ (∀ c ∈ cs, c.natAbs ≤ 4) ∧ (evD T (n + 2)).fnN "_law_row" (xs.map dI) [dI p, dI most] = .ret (.fr (cs.map dI)) (ys.map dI) := by
  obtain ⟨r, ys0, r0, r1, e1⟩ := next_ok n (most + 2) (by omega) xs
  obtain ⟨k, rfl⟩ : ∃ k : Nat, r = (k : Int) := ⟨r.toNat, by omega⟩
  have hr := rngN k (by omega)
  have hL : (rgD 0 1 k).length ≤ 100000 := by rw [rgD_length]; omega
  suffices h : ∃ (cs ys : List Int), (cs.length : Int) ≤ most + 1 ∧ (∀ c ∈ cs, c.natAbs ≤ 4) ∧ runBN T (evD T (n + 1)) f__law_row (xs.map dI) [dI p, dI most] = .ret (.fr (cs.map dI)) (ys.map dI) by
    obtain ⟨cs, ys, a, b, c⟩ := h
    exact ⟨cs, ys, a, b, by rw [cf__law_row]; exact c⟩
  simp only [runBN]; (conv in (FnI.body f__law_row) => whnf); simp (decide := true) [hot_glob, hotK, cls_int, cls_bool, cls_str, cls_list, cls_tuple, cls_own, sc_calm, sc_top, sc_lk, sc_N, lk_kind, lk_hasM, lk_hasO, lk_isC, lk_isF, lk_exm, lk_rm, lk_call, hot_slot, hot_tslot, hot_calm, hot_top, bind_ok, bind_ex, bind_no, so_ok, so_ex, so_no, dat_ok, dat_ex, dat_no, pu_ok, pu_ex, pu_no, of_some, of_none, sb_nx, sb_rt, sb_bk, sb_ct, sb_ex, sb_no, oc_ret, oc_ex, ocD_ret, ocD_ex, setSl_pu, setSl_fr, dat_pu, dat_fr, flatV, flatD, runB, runBN, runBI, FnI.start, modI, binI, cmpI, imp2, evSs, evS, evE, evEs, evB, evT, evTs, evHd, evTl, evE1, evLL, evI, evIf, evG, evTg, evH, callN, iterN, noStar, notSet, notComp, notSl, plainO, ownV, isaD, tyOf, knownT, isaT, boolD, intOf, strOf, seqOf, opB, opC, negD, scal, Sf.isNon, hndN, isExcK, isStrK, tgNs, tgOf, setTg, itemD, bltC, blt1, blt2, knB, imp2, listD, opN, cmpI, Lk.knows, isOw, lineOk, isTupE, isLT, look_cons, eqO_ii, eqO_bb, eqO_ss, eqO_in, eqO_ni, eqO_ins, eqO_tup, isRev, revD, e1, itOk, subsetV, tgsOf]
  rw [hr]
  simp only [of_some, bind_ok, wipR]
  rw [if_pos hL]
  generalize hcg : compGo (.one 3) [3] _ _ _ _ _ = o
  obtain ⟨acc', ρ', e, ⟨cs, ys, rfl, hc, rfl⟩, hl⟩ : ∃ (acc' : List Dat) (ρ' : List Sl), o = .ok acc' ρ' ∧ (∃ cs ys : List Int, acc' = cs.map dI ∧ (∀ c ∈ cs, c.natAbs ≤ 4) ∧ ρ' = [Sl.ow true (ys.map dI), .pu (dI p), .pu (dI most), .no]) ∧ acc'.length = ([] : List Dat).length + (rgD 0 1 k).length := by
    rw [← hcg]
    refine compGo_inv (fun acc ρ => ∃ cs ys : List Int, acc = cs.map dI ∧ (∀ c ∈ cs, c.natAbs ≤ 4) ∧ ρ = [Sl.ow true (ys.map dI), .pu (dI p), .pu (dI most), .no]) _ [] _ ⟨[], ys0, rfl, (fun _ h => nomatch h), rfl⟩ ?_
    rintro d acc ρ hd ⟨cs, ys, rfl, hc, rfl⟩
    obtain ⟨j, hj, rfl⟩ := rgD_nat hd
    obtain ⟨r, ys', a0, a1, e2⟩ := next_ok n 5 (by decide) ys
    obtain ⟨c, hc4, e3⟩ := rest_ok n p (r - 2) hp (by omega)
    refine ⟨_, _, [Sl.ow true (ys'.map dI), .pu (dI p), .pu (dI most), .pu (dI (j : Int))], dI c, rfl, rfl, by simp (decide := true) [hot_glob, hotK, cls_int, cls_bool, cls_str, cls_list, cls_tuple, cls_own, sc_calm, sc_top, sc_lk, sc_N, lk_kind, lk_hasM, lk_hasO, lk_isC, lk_isF, lk_exm, lk_rm, lk_call, hot_slot, hot_tslot, hot_calm, hot_top, bind_ok, bind_ex, bind_no, so_ok, so_ex, so_no, dat_ok, dat_ex, dat_no, pu_ok, pu_ex, pu_no, of_some, of_none, sb_nx, sb_rt, sb_bk, sb_ct, sb_ex, sb_no, oc_ret, oc_ex, ocD_ret, ocD_ex, setSl_pu, setSl_fr, dat_pu, dat_fr, flatV, flatD, runB, runBN, runBI, FnI.start, modI, binI, cmpI, imp2, evSs, evS, evE, evEs, evB, evT, evTs, evHd, evTl, evE1, evLL, evI, evIf, evG, evTg, evH, callN, iterN, noStar, notSet, notComp, notSl, plainO, ownV, isaD, tyOf, knownT, isaT, boolD, intOf, strOf, seqOf, opB, opC, negD, scal, Sf.isNon, hndN, isExcK, isStrK, tgNs, tgOf, setTg, itemD, bltC, blt1, blt2, knB, imp2, listD, opN, cmpI, Lk.knows, isOw, lineOk, isTupE, isLT, look_cons, eqO_ii, eqO_bb, eqO_ss, eqO_in, eqO_ni, eqO_ins, eqO_tup, isRev, revD, e2, e3], cs ++ [c], ys', by rw [List.map_append]; rfl, ?_, rfl⟩
    intro c' hc'
    rcases List.mem_append.mp hc' with h | h
    · exact hc c' h
    · rw [List.mem_singleton.mp h]; exact hc4
  subst e
  rw [List.length_map, rgD_length] at hl
  obtain ⟨m, hm1, hm2, e4⟩ := trim_ok n cs (by simp at hl; omega)
  refine ⟨m, by simp at hl; omega, fun c h => hc c (hm2 c h), ys, ?_⟩
  simp (decide := true) [hot_glob, hotK, cls_int, cls_bool, cls_str, cls_list, cls_tuple, cls_own, sc_calm, sc_top, sc_lk, sc_N, lk_kind, lk_hasM, lk_hasO, lk_isC, lk_isF, lk_exm, lk_rm, lk_call, hot_slot, hot_tslot, hot_calm, hot_top, bind_ok, bind_ex, bind_no, so_ok, so_ex, so_no, dat_ok, dat_ex, dat_no, pu_ok, pu_ex, pu_no, of_some, of_none, sb_nx, sb_rt, sb_bk, sb_ct, sb_ex, sb_no, oc_ret, oc_ex, ocD_ret, ocD_ex, setSl_pu, setSl_fr, dat_pu, dat_fr, flatV, flatD, runB, runBN, runBI, FnI.start, modI, binI, cmpI, imp2, evSs, evS, evE, evEs, evB, evT, evTs, evHd, evTl, evE1, evLL, evI, evIf, evG, evTg, evH, callN, iterN, noStar, notSet, notComp, notSl, plainO, ownV, isaD, tyOf, knownT, isaT, boolD, intOf, strOf, seqOf, opB, opC, negD, scal, Sf.isNon, hndN, isExcK, isStrK, tgNs, tgOf, setTg, itemD, bltC, blt1, blt2, knB, imp2, listD, opN, cmpI, Lk.knows, isOw, lineOk, isTupE, isLT, look_cons, eqO_ii, eqO_bb, eqO_ss, eqO_in, eqO_ni, eqO_ins, eqO_tup, isRev, revD, bakR2, e4]
end
section
variable {α : Type} [Lean.Grind.CommRing α] [DecidableEq α] (G : Gd α) (n : Nat)
theorem poly_ok (l : List Int) (hl : l.length ≤ 500) : (evD T (n + 9)).fn "_law_poly" [gnd G.p, .lst (l.map dI)] = .ret (.pu (pol G (trim (l.map G.nm)))) := by
  have m := mk_ G n (l.map G.nm) (by rw [List.length_map]; omega)
  have h2 : l.length ≤ 100000 := by omega
  unfold pol gnd at *
  rw [cf__law_poly]; simp only [runB, runBN, runBI]; (conv in (FnI.body f__law_poly) => whnf); simp (decide := true) [hot_glob, hotK, cls_int, cls_bool, cls_str, cls_list, cls_tuple, cls_own, sc_calm, sc_top, sc_lk, sc_N, lk_kind, lk_hasM, lk_hasO, lk_isC, lk_isF, lk_exm, lk_rm, lk_call, hot_slot, hot_tslot, hot_calm, hot_top, bind_ok, bind_ex, bind_no, so_ok, so_ex, so_no, dat_ok, dat_ex, dat_no, pu_ok, pu_ex, pu_no, of_some, of_none, sb_nx, sb_rt, sb_bk, sb_ct, sb_ex, sb_no, oc_ret, oc_ex, ocD_ret, ocD_ex, setSl_pu, setSl_fr, dat_pu, dat_fr, flatV, flatD, runB, runBN, runBI, FnI.start, modI, binI, cmpI, imp2, evSs, evS, evE, evEs, evB, evT, evTs, evHd, evTl, evE1, evLL, evI, evIf, evG, evTg, evH, callN, iterN, noStar, notSet, notComp, notSl, plainO, ownV, isaD, tyOf, knownT, isaT, boolD, intOf, strOf, seqOf, opB, opC, negD, scal, Sf.isNon, hndN, isExcK, isStrK, tgNs, tgOf, setTg, itemD, bltC, blt1, blt2, knB, imp2, listD, opN, cmpI, Lk.knows, isOw, lineOk, isTupE, isLT, look_cons, eqO_ii, eqO_bb, eqO_ss, eqO_in, eqO_ni, eqO_ins, eqO_tup, isRev, revD, itOk, subsetV, tgsOf, wipS, h2]
  rw [compGo_mapF dI (fun i => G.D (G.nm i)) _ l [] fun x hx => by
    have nu := G.num (n + 2) x
    exact ⟨_, _, _, rfl, rfl, by simp (decide := true) [hot_glob, hotK, cls_int, cls_bool, cls_str, cls_list, cls_tuple, cls_own, sc_calm, sc_top, sc_lk, sc_N, lk_kind, lk_hasM, lk_hasO, lk_isC, lk_isF, lk_exm, lk_rm, lk_call, hot_slot, hot_tslot, hot_calm, hot_top, bind_ok, bind_ex, bind_no, so_ok, so_ex, so_no, dat_ok, dat_ex, dat_no, pu_ok, pu_ex, pu_no, of_some, of_none, sb_nx, sb_rt, sb_bk, sb_ct, sb_ex, sb_no, oc_ret, oc_ex, ocD_ret, ocD_ex, setSl_pu, setSl_fr, dat_pu, dat_fr, flatV, flatD, runB, runBN, runBI, FnI.start, modI, binI, cmpI, imp2, evSs, evS, evE, evEs, evB, evT, evTs, evHd, evTl, evE1, evLL, evI, evIf, evG, evTg, evH, callN, iterN, noStar, notSet, notComp, notSl, plainO, ownV, isaD, tyOf, knownT, isaT, boolD, intOf, strOf, seqOf, opB, opC, negD, scal, Sf.isNon, hndN, isExcK, isStrK, tgNs, tgOf, setTg, itemD, bltC, blt1, blt2, knB, imp2, listD, opN, cmpI, Lk.knows, isOw, lineOk, isTupE, isLT, look_cons, eqO_ii, eqO_bb, eqO_ss, eqO_in, eqO_ni, eqO_ins, eqO_tup, isRev, revD, nu, Gd.D]; first | exact rfl | exact ⟨rfl, rfl⟩, rfl⟩]
  have e : l.map (fun i => G.D (G.nm i)) = (l.map G.nm).map G.D := by rw [List.map_map]; rfl
  rw [e]
  simp (decide := true) only [List.nil_append, bind_ok, so_ok, sb_nx, bakS, dat_ok, dat_fr, pu_ok, m, ocD_ret, dat_pu]
  rfl
theorem szL_nm (l : List Int) (h : ∀ c ∈ l, c.natAbs ≤ 4) : SzL G 3 (trim (l.map G.nm)) := szL_trim G fun j => by
  by_cases hj : j < (l.map G.nm).length
  · rw [co_lt hj, List.getElem_map]
    exact G.szN _ (h _ (List.getElem_mem _))
  · rw [co_ge (by omega)]; exact G.mono G.sz0 (by decide)
end
end D08
namespace D08
open PySem L2 Sf Pm
/-! ### the grounds -/
def gQ : Gd Rat where
  C := "Ratio"
  ks := ["n", "d"]
  u := fun q => dI q.num
  v := fun q => dI (q.den : Int)
  p := 0
  Sz := Pq.Sz
  inv := fun q => q⁻¹
  nm := fun i => (i : Rat)
  isC := rfl
  hz := rfl
  hi := rfl
  kz := by decide
  ki := by decide
  oa := rfl
  os := rfl
  om := rfl
  oe := rfl
  mono := fun h l => h.mono l
  sz0 := Pq.sz0
  sz1 := Pq.sz1
  szI := fun h h0 => Pq.sz_inv h h0
  szA := fun a b => Pq.sz_add a b
  szS := fun a b => Pq.sz_sub a b
  szM := fun a b => Pq.sz_mul a b
  add := fun n _ _ _ _ a b h => rq_add (n + 4) a b h
  sub := fun n _ _ _ _ a b h => rq_sub (n + 4) a b h
  mul := fun n _ _ _ _ a b h => rq_mul (n + 4) a b h
  isz := fun n a => rq_isz (n + 5) a
  eqv := fun n a b => rq_eq (n + 5) a b
  iv := fun n _ _ a h0 h => rq_inv (n + 6) a h0 h
  mi := fun a h => Rat.mul_inv_cancel a h
  ne := by decide
  mem := fun n a => mem_q (n + 5) a.num a.den
  zero := fun n => (zero_ (n + 4) 0).trans (num0 (n + 3) 0)
  num := fun n i => num0 (n + 4) i
  szN := fun i h => Pq.sz_int (by omega) (by decide)
  one := fun n => (one_ (n + 4) 0).trans (num0 (n + 3) 1)
theorem iv2_ : ∀ x : Fin 2, x ≠ 0 → ∀ n : Nat, (evD T (n + 8)).mt "Residue" "inverse" [res 2 (x.val : Int)] = .ret (.pu (res 2 (((x : Fin 2)).val : Int))) := by
  intro x h n
  match x, h with
  | 0, h => exact absurd rfl h
  | 1, h => kernel_rfl
def g2 : Gd (Fin 2) where
  C := "Residue"
  ks := ["p", "n"]
  u := fun _ => dI 2
  v := fun x => dI (x.val : Int)
  p := 2
  Sz := fun _ _ => True
  inv := fun x => x
  nm := fun i => ⟨(i % 2).toNat, by omega⟩
  isC := rfl
  hz := rfl
  hi := rfl
  kz := by decide
  ki := by decide
  oa := rfl
  os := rfl
  om := rfl
  oe := rfl
  mono := fun _ _ => trivial
  sz0 := trivial
  sz1 := trivial
  szI := fun _ _ => trivial
  szA := fun _ _ => trivial
  szS := fun _ _ => trivial
  szM := fun _ _ => trivial
  add := fun n _ _ a b _ _ _ => (res_add (n + 2) 2 a.val b.val (by decide) (by decide)).trans (by
    have e : ∀ x y : Fin 2, ((x + y).val : Int) = ((x.val : Int) + y.val) % 2 := by decide
    rw [← e a b]; rfl)
  sub := fun n _ _ a b _ _ _ => (res_sub (n + 2) 2 a.val b.val (by decide) (by decide)).trans (by
    have e : ∀ x y : Fin 2, ((x - y).val : Int) = ((x.val : Int) - y.val) % 2 := by decide
    rw [← e a b]; rfl)
  mul := fun n _ _ a b _ _ _ => (res_mul (n + 2) 2 a.val b.val (by decide) (by decide) (mulG_small (by have := a.isLt; omega) (by have := b.isLt; omega))).trans (by
    have e : ∀ x y : Fin 2, ((x * y).val : Int) = ((x.val : Int) * y.val) % 2 := by decide
    rw [← e a b]; rfl)
  isz := fun n a => (res_isz (n + 5) 2 a.val).trans (by
    have e : ∀ x : Fin 2, decide ((x.val : Int) = 0) = decide (x = 0) := by decide
    rw [e a])
  eqv := fun n a b => (res_eq (n + 5) 2 a.val b.val).trans (by
    have e : ∀ x y : Fin 2, decide ((x.val : Int) = (y.val : Int)) = decide (x = y) := by decide
    rw [e a b])
  iv := fun n _ a _ h _ => iv2_ a h n
  mi := by decide
  ne := by decide
  mem := fun n a => mem_r (n + 5) 2 a.val (by decide)
  zero := fun n => (zero_ (n + 4) 2).trans (num1 (n + 1) 2 0 (by decide) (by decide))
  num := fun n i => (num1 (n + 2) 2 i (by decide) (by decide)).trans (by
    have e : i % 2 = (((i % 2).toNat : Nat) : Int) := by omega
    exact congrArg (fun z => FR.ret (Rv.pu (res 2 z))) e)
  szN := fun _ _ => trivial
  one := fun n => (one_ (n + 4) 2).trans (num1 (n + 1) 2 1 (by decide) (by decide))
theorem iv3_ : ∀ x : Fin 3, x ≠ 0 → ∀ n : Nat, (evD T (n + 8)).mt "Residue" "inverse" [res 3 (x.val : Int)] = .ret (.pu (res 3 (((x : Fin 3)).val : Int))) := by
  intro x h n
  match x, h with
  | 0, h => exact absurd rfl h
  | 1, h => kernel_rfl
  | 2, h => kernel_rfl
def g3 : Gd (Fin 3) where
  C := "Residue"
  ks := ["p", "n"]
  u := fun _ => dI 3
  v := fun x => dI (x.val : Int)
  p := 3
  Sz := fun _ _ => True
  inv := fun x => x
  nm := fun i => ⟨(i % 3).toNat, by omega⟩
  isC := rfl
  hz := rfl
  hi := rfl
  kz := by decide
  ki := by decide
  oa := rfl
  os := rfl
  om := rfl
  oe := rfl
  mono := fun _ _ => trivial
  sz0 := trivial
  sz1 := trivial
  szI := fun _ _ => trivial
  szA := fun _ _ => trivial
  szS := fun _ _ => trivial
  szM := fun _ _ => trivial
  add := fun n _ _ a b _ _ _ => (res_add (n + 2) 3 a.val b.val (by decide) (by decide)).trans (by
    have e : ∀ x y : Fin 3, ((x + y).val : Int) = ((x.val : Int) + y.val) % 3 := by decide
    rw [← e a b]; rfl)
  sub := fun n _ _ a b _ _ _ => (res_sub (n + 2) 3 a.val b.val (by decide) (by decide)).trans (by
    have e : ∀ x y : Fin 3, ((x - y).val : Int) = ((x.val : Int) - y.val) % 3 := by decide
    rw [← e a b]; rfl)
  mul := fun n _ _ a b _ _ _ => (res_mul (n + 2) 3 a.val b.val (by decide) (by decide) (mulG_small (by have := a.isLt; omega) (by have := b.isLt; omega))).trans (by
    have e : ∀ x y : Fin 3, ((x * y).val : Int) = ((x.val : Int) * y.val) % 3 := by decide
    rw [← e a b]; rfl)
  isz := fun n a => (res_isz (n + 5) 3 a.val).trans (by
    have e : ∀ x : Fin 3, decide ((x.val : Int) = 0) = decide (x = 0) := by decide
    rw [e a])
  eqv := fun n a b => (res_eq (n + 5) 3 a.val b.val).trans (by
    have e : ∀ x y : Fin 3, decide ((x.val : Int) = (y.val : Int)) = decide (x = y) := by decide
    rw [e a b])
  iv := fun n _ a _ h _ => iv3_ a h n
  mi := by decide
  ne := by decide
  mem := fun n a => mem_r (n + 5) 3 a.val (by decide)
  zero := fun n => (zero_ (n + 4) 3).trans (num1 (n + 1) 3 0 (by decide) (by decide))
  num := fun n i => (num1 (n + 2) 3 i (by decide) (by decide)).trans (by
    have e : i % 3 = (((i % 3).toNat : Nat) : Int) := by omega
    exact congrArg (fun z => FR.ret (Rv.pu (res 3 z))) e)
  szN := fun _ _ => trivial
  one := fun n => (one_ (n + 4) 3).trans (num1 (n + 1) 3 1 (by decide) (by decide))
theorem iv5_ : ∀ x : Fin 5, x ≠ 0 → ∀ n : Nat, (evD T (n + 8)).mt "Residue" "inverse" [res 5 (x.val : Int)] = .ret (.pu (res 5 (((x * x * x : Fin 5)).val : Int))) := by
  intro x h n
  match x, h with
  | 0, h => exact absurd rfl h
  | 1, h => kernel_rfl
  | 2, h => kernel_rfl
  | 3, h => kernel_rfl
  | 4, h => kernel_rfl
def g5 : Gd (Fin 5) where
  C := "Residue"
  ks := ["p", "n"]
  u := fun _ => dI 5
  v := fun x => dI (x.val : Int)
  p := 5
  Sz := fun _ _ => True
  inv := fun x => x * x * x
  nm := fun i => ⟨(i % 5).toNat, by omega⟩
  isC := rfl
  hz := rfl
  hi := rfl
  kz := by decide
  ki := by decide
  oa := rfl
  os := rfl
  om := rfl
  oe := rfl
  mono := fun _ _ => trivial
  sz0 := trivial
  sz1 := trivial
  szI := fun _ _ => trivial
  szA := fun _ _ => trivial
  szS := fun _ _ => trivial
  szM := fun _ _ => trivial
  add := fun n _ _ a b _ _ _ => (res_add (n + 2) 5 a.val b.val (by decide) (by decide)).trans (by
    have e : ∀ x y : Fin 5, ((x + y).val : Int) = ((x.val : Int) + y.val) % 5 := by decide
    rw [← e a b]; rfl)
  sub := fun n _ _ a b _ _ _ => (res_sub (n + 2) 5 a.val b.val (by decide) (by decide)).trans (by
    have e : ∀ x y : Fin 5, ((x - y).val : Int) = ((x.val : Int) - y.val) % 5 := by decide
    rw [← e a b]; rfl)
  mul := fun n _ _ a b _ _ _ => (res_mul (n + 2) 5 a.val b.val (by decide) (by decide) (mulG_small (by have := a.isLt; omega) (by have := b.isLt; omega))).trans (by
    have e : ∀ x y : Fin 5, ((x * y).val : Int) = ((x.val : Int) * y.val) % 5 := by decide
    rw [← e a b]; rfl)
  isz := fun n a => (res_isz (n + 5) 5 a.val).trans (by
    have e : ∀ x : Fin 5, decide ((x.val : Int) = 0) = decide (x = 0) := by decide
    rw [e a])
  eqv := fun n a b => (res_eq (n + 5) 5 a.val b.val).trans (by
    have e : ∀ x y : Fin 5, decide ((x.val : Int) = (y.val : Int)) = decide (x = y) := by decide
    rw [e a b])
  iv := fun n _ a _ h _ => iv5_ a h n
  mi := by decide
  ne := by decide
  mem := fun n a => mem_r (n + 5) 5 a.val (by decide)
  zero := fun n => (zero_ (n + 4) 5).trans (num1 (n + 1) 5 0 (by decide) (by decide))
  num := fun n i => (num1 (n + 2) 5 i (by decide) (by decide)).trans (by
    have e : i % 5 = (((i % 5).toNat : Nat) : Int) := by omega
    exact congrArg (fun z => FR.ret (Rv.pu (res 5 z))) e)
  szN := fun _ _ => trivial
  one := fun n => (one_ (n + 4) 5).trans (num1 (n + 1) 5 1 (by decide) (by decide))
end D08
namespace D08
open PySem L2 Sf Pm
theorem bLaw : f_law.body = [stAt f_law.body 0, stAt f_law.body 1, stAt f_law.body 2, stAt f_law.body 3, stAt f_law.body 4, stAt f_law.body 5, stAt f_law.body 6, stAt f_law.body 7, stAt f_law.body 8, stAt f_law.body 9, stAt f_law.body 10] := by kernel_rfl
def sl (sc : Dat) (nu p g f h z : Sl) : List Sl := [.pu sc, nu, p, g, f, h, z, .no]
theorem la0 (sc : Dat) (us : List Dat) (h : (evD T 14).fn "_law_numbers" [sc] = .ret (.fr us)) : evS (stAt f_law.body 0) cL (sl sc .no .no .no .no .no .no) = .nx (sl sc (.ow false us) .no .no .no .no .no) := by
  unfold cL sl
  (conv in (stAt f_law.body 0) => whnf)
  simp (decide := true) [hot_glob, hotK, cls_int, cls_bool, cls_str, cls_list, cls_tuple, cls_own, sc_calm, sc_top, sc_lk, sc_N, lk_kind, lk_hasM, lk_hasO, lk_isC, lk_isF, lk_exm, lk_rm, lk_call, hot_slot, hot_tslot, hot_calm, hot_top, bind_ok, bind_ex, bind_no, so_ok, so_ex, so_no, dat_ok, dat_ex, dat_no, pu_ok, pu_ex, pu_no, of_some, of_none, sb_nx, sb_rt, sb_bk, sb_ct, sb_ex, sb_no, oc_ret, oc_ex, ocD_ret, ocD_ex, setSl_pu, setSl_fr, dat_pu, dat_fr, flatV, flatD, runB, runBN, runBI, FnI.start, modI, binI, cmpI, imp2, evSs, evS, evE, evEs, evB, evT, evTs, evHd, evTl, evE1, evLL, evI, evIf, evG, evTg, evH, callN, iterN, noStar, notSet, notComp, notSl, plainO, ownV, isaD, tyOf, knownT, isaT, boolD, intOf, strOf, seqOf, opB, opC, negD, scal, Sf.isNon, hndN, isExcK, isStrK, tgNs, tgOf, setTg, itemD, bltC, blt1, blt2, knB, imp2, listD, opN, cmpI, Lk.knows, isOw, lineOk, isTupE, isLT, look_cons, eqO_ii, eqO_bb, eqO_ss, eqO_in, eqO_ni, eqO_ins, eqO_tup, isRev, revD, h]
theorem la1 (sc : Dat) (us vs : List Dat) (p : Int) (h : (evD T 14).fnN "_law_prime" us [] = .ret (.pu (dI p)) vs) : evS (stAt f_law.body 1) cL (sl sc (.ow false us) .no .no .no .no .no) = .nx (sl sc (.ow false vs) (.pu (dI p)) .no .no .no .no) := by
  unfold cL sl
  (conv in (stAt f_law.body 1) => whnf)
  simp (decide := true) [hot_glob, hotK, cls_int, cls_bool, cls_str, cls_list, cls_tuple, cls_own, sc_calm, sc_top, sc_lk, sc_N, lk_kind, lk_hasM, lk_hasO, lk_isC, lk_isF, lk_exm, lk_rm, lk_call, hot_slot, hot_tslot, hot_calm, hot_top, bind_ok, bind_ex, bind_no, so_ok, so_ex, so_no, dat_ok, dat_ex, dat_no, pu_ok, pu_ex, pu_no, of_some, of_none, sb_nx, sb_rt, sb_bk, sb_ct, sb_ex, sb_no, oc_ret, oc_ex, ocD_ret, ocD_ex, setSl_pu, setSl_fr, dat_pu, dat_fr, flatV, flatD, runB, runBN, runBI, FnI.start, modI, binI, cmpI, imp2, evSs, evS, evE, evEs, evB, evT, evTs, evHd, evTl, evE1, evLL, evI, evIf, evG, evTg, evH, callN, iterN, noStar, notSet, notComp, notSl, plainO, ownV, isaD, tyOf, knownT, isaT, boolD, intOf, strOf, seqOf, opB, opC, negD, scal, Sf.isNon, hndN, isExcK, isStrK, tgNs, tgOf, setTg, itemD, bltC, blt1, blt2, knB, imp2, listD, opN, cmpI, Lk.knows, isOw, lineOk, isTupE, isLT, look_cons, eqO_ii, eqO_bb, eqO_ss, eqO_in, eqO_ni, eqO_ins, eqO_tup, isRev, revD, h]
theorem la2 (sc : Dat) (us : List Dat) (p : Int) (g : Dat) (h : (evD T 14).fn "_law_ground" [dI p] = .ret (.pu g)) : evS (stAt f_law.body 2) cL (sl sc (.ow false us) (.pu (dI p)) .no .no .no .no) = .nx (sl sc (.ow false us) (.pu (dI p)) (.pu g) .no .no .no) := by
  unfold cL sl
  (conv in (stAt f_law.body 2) => whnf)
  simp (decide := true) [hot_glob, hotK, cls_int, cls_bool, cls_str, cls_list, cls_tuple, cls_own, sc_calm, sc_top, sc_lk, sc_N, lk_kind, lk_hasM, lk_hasO, lk_isC, lk_isF, lk_exm, lk_rm, lk_call, hot_slot, hot_tslot, hot_calm, hot_top, bind_ok, bind_ex, bind_no, so_ok, so_ex, so_no, dat_ok, dat_ex, dat_no, pu_ok, pu_ex, pu_no, of_some, of_none, sb_nx, sb_rt, sb_bk, sb_ct, sb_ex, sb_no, oc_ret, oc_ex, ocD_ret, ocD_ex, setSl_pu, setSl_fr, dat_pu, dat_fr, flatV, flatD, runB, runBN, runBI, FnI.start, modI, binI, cmpI, imp2, evSs, evS, evE, evEs, evB, evT, evTs, evHd, evTl, evE1, evLL, evI, evIf, evG, evTg, evH, callN, iterN, noStar, notSet, notComp, notSl, plainO, ownV, isaD, tyOf, knownT, isaT, boolD, intOf, strOf, seqOf, opB, opC, negD, scal, Sf.isNon, hndN, isExcK, isStrK, tgNs, tgOf, setTg, itemD, bltC, blt1, blt2, knB, imp2, listD, opN, cmpI, Lk.knows, isOw, lineOk, isTupE, isLT, look_cons, eqO_ii, eqO_bb, eqO_ss, eqO_in, eqO_ni, eqO_ins, eqO_tup, isRev, revD, h]
theorem la3 (sc : Dat) (us vs ls : List Dat) (p : Int) (g f : Dat) (h : (evD T 14).fnN "_law_row" us [dI p, dI 5] = .ret (.fr ls) vs) (h2 : (evD T 14).fn "_law_poly" [g, .lst ls] = .ret (.pu f)) : evS (stAt f_law.body 3) cL (sl sc (.ow false us) (.pu (dI p)) (.pu g) .no .no .no) = .nx (sl sc (.ow false vs) (.pu (dI p)) (.pu g) (.pu f) .no .no) := by
  unfold cL sl
  (conv in (stAt f_law.body 3) => whnf)
  simp (decide := true) [hot_glob, hotK, cls_int, cls_bool, cls_str, cls_list, cls_tuple, cls_own, sc_calm, sc_top, sc_lk, sc_N, lk_kind, lk_hasM, lk_hasO, lk_isC, lk_isF, lk_exm, lk_rm, lk_call, hot_slot, hot_tslot, hot_calm, hot_top, bind_ok, bind_ex, bind_no, so_ok, so_ex, so_no, dat_ok, dat_ex, dat_no, pu_ok, pu_ex, pu_no, of_some, of_none, sb_nx, sb_rt, sb_bk, sb_ct, sb_ex, sb_no, oc_ret, oc_ex, ocD_ret, ocD_ex, setSl_pu, setSl_fr, dat_pu, dat_fr, flatV, flatD, runB, runBN, runBI, FnI.start, modI, binI, cmpI, imp2, evSs, evS, evE, evEs, evB, evT, evTs, evHd, evTl, evE1, evLL, evI, evIf, evG, evTg, evH, callN, iterN, noStar, notSet, notComp, notSl, plainO, ownV, isaD, tyOf, knownT, isaT, boolD, intOf, strOf, seqOf, opB, opC, negD, scal, Sf.isNon, hndN, isExcK, isStrK, tgNs, tgOf, setTg, itemD, bltC, blt1, blt2, knB, imp2, listD, opN, cmpI, Lk.knows, isOw, lineOk, isTupE, isLT, look_cons, eqO_ii, eqO_bb, eqO_ss, eqO_in, eqO_ni, eqO_ins, eqO_tup, isRev, revD, h, h2]
theorem la4 (sc : Dat) (us vs ls : List Dat) (p : Int) (g f f2 : Dat) (h : (evD T 14).fnN "_law_row" us [dI p, dI 3] = .ret (.fr ls) vs) (h2 : (evD T 14).fn "_law_poly" [g, .lst ls] = .ret (.pu f2)) : evS (stAt f_law.body 4) cL (sl sc (.ow false us) (.pu (dI p)) (.pu g) (.pu f) .no .no) = .nx (sl sc (.ow false vs) (.pu (dI p)) (.pu g) (.pu f) (.pu f2) .no) := by
  unfold cL sl
  (conv in (stAt f_law.body 4) => whnf)
  simp (decide := true) [hot_glob, hotK, cls_int, cls_bool, cls_str, cls_list, cls_tuple, cls_own, sc_calm, sc_top, sc_lk, sc_N, lk_kind, lk_hasM, lk_hasO, lk_isC, lk_isF, lk_exm, lk_rm, lk_call, hot_slot, hot_tslot, hot_calm, hot_top, bind_ok, bind_ex, bind_no, so_ok, so_ex, so_no, dat_ok, dat_ex, dat_no, pu_ok, pu_ex, pu_no, of_some, of_none, sb_nx, sb_rt, sb_bk, sb_ct, sb_ex, sb_no, oc_ret, oc_ex, ocD_ret, ocD_ex, setSl_pu, setSl_fr, dat_pu, dat_fr, flatV, flatD, runB, runBN, runBI, FnI.start, modI, binI, cmpI, imp2, evSs, evS, evE, evEs, evB, evT, evTs, evHd, evTl, evE1, evLL, evI, evIf, evG, evTg, evH, callN, iterN, noStar, notSet, notComp, notSl, plainO, ownV, isaD, tyOf, knownT, isaT, boolD, intOf, strOf, seqOf, opB, opC, negD, scal, Sf.isNon, hndN, isExcK, isStrK, tgNs, tgOf, setTg, itemD, bltC, blt1, blt2, knB, imp2, listD, opN, cmpI, Lk.knows, isOw, lineOk, isTupE, isLT, look_cons, eqO_ii, eqO_bb, eqO_ss, eqO_in, eqO_ni, eqO_ins, eqO_tup, isRev, revD, h, h2]
theorem la5 (sc : Dat) (us : List Dat) (p : Int) (g f f2 z : Dat) (h : (evD T 14).mkI "Poly" [g, .lst []] = .ret (.pu z)) : evS (stAt f_law.body 5) cL (sl sc (.ow false us) (.pu (dI p)) (.pu g) (.pu f) (.pu f2) .no) = .nx (sl sc (.ow false us) (.pu (dI p)) (.pu g) (.pu f) (.pu f2) (.pu z)) := by
  unfold cL sl
  (conv in (stAt f_law.body 5) => whnf)
  simp (decide := true) [hot_glob, hotK, cls_int, cls_bool, cls_str, cls_list, cls_tuple, cls_own, sc_calm, sc_top, sc_lk, sc_N, lk_kind, lk_hasM, lk_hasO, lk_isC, lk_isF, lk_exm, lk_rm, lk_call, hot_slot, hot_tslot, hot_calm, hot_top, bind_ok, bind_ex, bind_no, so_ok, so_ex, so_no, dat_ok, dat_ex, dat_no, pu_ok, pu_ex, pu_no, of_some, of_none, sb_nx, sb_rt, sb_bk, sb_ct, sb_ex, sb_no, oc_ret, oc_ex, ocD_ret, ocD_ex, setSl_pu, setSl_fr, dat_pu, dat_fr, flatV, flatD, runB, runBN, runBI, FnI.start, modI, binI, cmpI, imp2, evSs, evS, evE, evEs, evB, evT, evTs, evHd, evTl, evE1, evLL, evI, evIf, evG, evTg, evH, callN, iterN, noStar, notSet, notComp, notSl, plainO, ownV, isaD, tyOf, knownT, isaT, boolD, intOf, strOf, seqOf, opB, opC, negD, scal, Sf.isNon, hndN, isExcK, isStrK, tgNs, tgOf, setTg, itemD, bltC, blt1, blt2, knB, imp2, listD, opN, cmpI, Lk.knows, isOw, lineOk, isTupE, isLT, look_cons, eqO_ii, eqO_bb, eqO_ss, eqO_in, eqO_ni, eqO_ins, eqO_tup, isRev, revD, h]
theorem end_rt {ρ : List Sl} {s : Stmt} {ss : List Stmt} {c : SC} {ρ0 : List Sl} {r : Rv} (h : evS s c ρ0 = .rt r ρ) : evSs (s :: ss) c ρ0 = .rt r ρ := by rw [evSs, h]; rfl
theorem tail_ok {α : Type} [Lean.Grind.CommRing α] [DecidableEq α] (G : Gd α) (sc : Dat) (us : List Dat) (p : Dat) (f g : List α) (hf : SzL G 3 f) (hg : SzL G 3 g) (lf : f.length ≤ 6) (lg : g.length ≤ 4) (tf : Tr f) (tg : Tr g) :
    ∃ ρ, evSs [stAt f_law.body 6, stAt f_law.body 7, stAt f_law.body 8, stAt f_law.body 9, stAt f_law.body 10] cL (at6 G sc us p f g) = .rt (.pu (dB true)) ρ := by
  rw [evSs_cons (law6 G sc us p f g)]
  rcases List.eq_nil_or_concat g with rfl | ⟨g', x, rfl⟩
  · exact ⟨_, end_rt (law7z G sc us p f)⟩
  · simp only [List.concat_eq_append] at *
    have h0 : x ≠ 0 := tg g' x rfl
    have lg' : g'.length ≤ 3 := by rw [List.length_append, List.length_singleton] at lg; omega
    obtain ⟨ρ, e⟩ := law10 G sc us p f g' x h0 hg lg' tg
    refine ⟨ρ, ?_⟩
    rw [evSs_cons (law7 G sc us p f _ (by simp)), evSs_cons (law8 G sc us p f g' x h0 hf hg lf lg' tf), evSs_cons (law9 G sc us p f g' x h0 hg lg')]
    exact end_rt e
theorem law_go {α : Type} [Lean.Grind.CommRing α] [DecidableEq α] (G : Gd α) (ns : List Int) (hl : ns.length ≤ 63) (xs ys : List Int) (hp : Pr G.p) (hn : (evD T 14).fn "_law_numbers" [.rol (ns.map dI)] = .ret (.fr (xs.map dI))) (h1 : (evD T 14).fnN "_law_prime" (xs.map dI) [] = .ret (.pu (dI G.p)) (ys.map dI)) :
    runB (tabOf S) (evD (tabOf S) 14) f_law [.rol (ns.map dI)] = .ret (.pu (dB true)) := by
  have h2 := ground_ok 10 G.p hp
  obtain ⟨l1, y1, a1, b1, e1⟩ := row_ok 12 G.p 5 hp ⟨by decide, by decide⟩ ys
  obtain ⟨l2, y2, a2, b2, e2⟩ := row_ok 12 G.p 3 hp ⟨by decide, by decide⟩ y1
  have q1 := poly_ok G 5 l1 (by omega)
  have q2 := poly_ok G 5 l2 (by omega)
  have z := mk_ G 6 ([] : List α) (by simp)
  rw [List.map_nil, trim_nil] at z
  change (evD T 14).mkI "Poly" [gnd G.p, .lst []] = _ at z
  obtain ⟨ρ, e⟩ := tail_ok G (.rol (ns.map dI)) (y2.map dI) (dI G.p) (trim (l1.map G.nm)) (trim (l2.map G.nm)) (szL_nm G l1 b1) (szL_nm G l2 b2)
    (Nat.le_trans (trim_len _) (by rw [List.length_map]; omega)) (Nat.le_trans (trim_len _) (by rw [List.length_map]; omega)) (tr_trim _) (tr_trim _)
  show runB T (evD T 14) f_law [.rol (ns.map dI)] = .ret (.pu (dB true))
  unfold runB
  have hs : f_law.start ([Dat.rol (ns.map dI)].map .pu) = sl (.rol (ns.map dI)) .no .no .no .no .no .no := rfl
  rw [hs, bLaw, evSs_cons (la0 _ _ hn), evSs_cons (la1 _ _ _ _ h1), evSs_cons (la2 _ _ _ _ h2), evSs_cons (la3 _ _ _ _ _ _ _ e1 q1), evSs_cons (la4 _ _ _ _ _ _ _ _ e2 q2), evSs_cons (la5 _ _ _ _ _ _ _ z)]
  change evSs _ cL (sl _ _ _ _ _ _ _) = _ at e
  rw [e]
theorem law_ok (ns : List Int) (hl : ns.length ≤ 63) : runB (tabOf S) (evD (tabOf S) 14) f_law [.rol (ns.map dI)] = .ret (.pu (dB true)) := by
  obtain ⟨xs, hn⟩ := numbers_ok 13 ns hl
  obtain ⟨p, ys, hp, h1⟩ := prime_ok 12 xs
  rcases hp with rfl | rfl | rfl | rfl
  · exact law_go gQ ns hl xs ys (.inl rfl) hn h1
  · exact law_go g2 ns hl xs ys (.inr (.inl rfl)) hn h1
  · exact law_go g3 ns hl xs ys (.inr (.inr (.inl rfl))) hn h1
  · exact law_go g5 ns hl xs ys (.inr (.inr (.inr rfl))) hn h1
end D08
set_option autoImplicit true
namespace D08
open PySem L2 Sf
theorem facts {P : Program} {w : World} {K : PySem.W.Frag} {h : Heap} {mg : Str → Option Value} {f : Addr} (X : K.In h) (G : h.Ns mainGlobals mg) (hfa : mg ("law" : Str) = some (.ref f)) (c : He.SaysX [] fn [] [] ex w h K) :
    ∃ fd : FuncData, (∀ (s : Shared) (v : Value), BindsTo s fd ⟨[v], []⟩ [("script", v)]) ∧ ∀ base : Heap, K.In base → base.Ns mainGlobals mg → FnOk P w K mg base (L2.CX P w) 46 f fd ["script"] (lift K spLaw) := by
  have cd : He.SaysD [] fn K := congrArg (fun z : He.AlT => z.1) c.t
  obtain ⟨fd, F⟩ := cd.defs (d := d_law) (by simp [fn])
  have e := hfa.symm.trans (law_glo X G c.more)
  cases e
  have b := FunD.bindsA (ps := ["script"]) F fun _ _ _ _ _ _ us hl => match us, hl with | [_], _ => rfl
  exact ⟨fd, fun s v => b s [v] rfl, fun base _ _ => law_fn (n := 14) (tok X G c.more (defs_ok cd c.more)) F sc_law rfl law_ok⟩
end D08

open PySem PySem.W PySem.Calls PyProof.Rows in
theorem PySem.Challenge.cw_similarforms_k08_division_holds : PySem.Challenge.rw_similarforms_k08_division.Holds := by
  w_on; o_law
  refine HandSHeadRun.head_imp (r := OpenLaw.row PySem.Challenge.rw_similarforms_k08_division) (q := D08.qv) (H := D08.hk) (ob := D08.ob) (M := 9000) (loose := D08.names)
    (d := HandSHeadRun.topDef (OpenLaw.row PySem.Challenge.rw_similarforms_k08_division).prog 45) (kwd := []) D08.ob_eq D08.run
    (by kernel_rfl) (by kernel_rfl) (by kernel_rfl) (by rfl) (by first | assumption | decide +kernel) (by decide +kernel) ⟨rfl, rfl, rfl, rfl, rfl, by decide +kernel⟩ ?hw ?hc
  case hw => w_witness2
  case hc =>
    refine Sf.walk_e (l := PySem.Challenge.rw_similarforms_k08_division) (k := 46) (x := "script") rfl rfl ⟨rfl, by decide, by decide⟩ ?_
    intro w mg fa h Y G named
    obtain ⟨K, KX, c⟩ := Y
    have e : (HandSHeadRun.topDef (OpenLaw.row PySem.Challenge.rw_similarforms_k08_division).prog 45).name = ("law" : PySem.Str) := by kernel_rfl
    obtain ⟨fd, b, keeps⟩ := D08.facts (P := (PySem.Challenge.rw_similarforms_k08_division).prog) (w := w) KX G (e ▸ named) c
    exact ⟨K, fd, KX, b, keeps⟩
